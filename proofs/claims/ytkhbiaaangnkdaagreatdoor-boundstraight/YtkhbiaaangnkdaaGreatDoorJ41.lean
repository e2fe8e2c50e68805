import Derived.Test.YtkhbiaaangnkdaaGreatDoorJ40
import Derived.Deep.RegionHeld3
namespace Go.Proofs.YtkhbiaaangnkdaaGreatDoor
set_option maxRecDepth 100000
set_option maxHeartbeats 40000000
open Go.RowKit
theorem Fits_no (n b e c p s lo hi tb te tp ts:Int)(w:World)(h:¬(b=tb∧e=te∧p=tp∧s=ts)):
 Calls Tryz.prog 164 #[.agg #[.bool true,.int .u64 n,.int .u64 b,.int .u64 e,.int .u64 c,.int .u8 p,.int .i64 s],.agg #[.bool true,.int .u64 tb,.int .u64 te,.int .u64 lo,.int .u64 hi,.int .u8 tp,.int .i64 ts]] w fun x w'=>x=.returned (.bool false)∧Gr w w':=by
 have hc:=CapOf_any ⟨true,tb,te,lo,hi,tp,ts⟩ c;simp only at hc;go_enter Tryz.func164,Tryz.ntmps164;go_upto_region 3 with fail
 have⟨z1,p1,_⟩:=((atNew w #[.bool true,.int .u64 n,.int .u64 b,.int .u64 e,.int .u64 c,.int .u8 p,.int .i64 s] 75).alloc (.cells #[.bool true,.int .u64 tb,.int .u64 te,.int .u64 lo,.int .u64 hi,.int .u8 tp,.int .i64 ts] 130));have⟨z2,p2,_⟩:=At.next w (.cells #[.bool true,.int .u64 n,.int .u64 b,.int .u64 e,.int .u64 c,.int .u8 p,.int .i64 s] 75) #[.bool true,.int .u64 tb,.int .u64 te,.int .u64 lo,.int .u64 hi,.int .u8 tp,.int .i64 ts] 130;have KS:∀W,Gr ((w.alloc (.cells #[.bool true,.int .u64 n,.int .u64 b,.int .u64 e,.int .u64 c,.int .u8 p,.int .i64 s] 75)).alloc (.cells #[.bool true,.int .u64 tb,.int .u64 te,.int .u64 lo,.int .u64 hi,.int .u8 tp,.int .i64 ts] 130)) W→W.cell? ⟨w.heap.size,0,none⟩=some (.bool true)∧W.cell? ⟨w.heap.size,1,none⟩=some (.int .u64 n)∧W.cell? ⟨w.heap.size,2,none⟩=some (.int .u64 b)∧W.cell? ⟨w.heap.size,3,none⟩=some (.int .u64 e)∧W.cell? ⟨w.heap.size,4,none⟩=some (.int .u64 c)∧W.cell? ⟨w.heap.size,5,none⟩=some (.int .u8 p)∧W.cell? ⟨w.heap.size,6,none⟩=some (.int .i64 s)∧W.cell? ⟨w.heap.size+1,0,none⟩=some (.bool true)∧W.cell? ⟨w.heap.size+1,1,none⟩=some (.int .u64 tb)∧W.cell? ⟨w.heap.size+1,2,none⟩=some (.int .u64 te)∧W.cell? ⟨w.heap.size+1,3,none⟩=some (.int .u64 lo)∧W.cell? ⟨w.heap.size+1,4,none⟩=some (.int .u64 hi)∧W.cell? ⟨w.heap.size+1,5,none⟩=some (.int .u8 tp)∧W.cell? ⟨w.heap.size+1,6,none⟩=some (.int .i64 ts):=fun W hG=>⟨(hG.cell z1 _).trans (p1 0),(hG.cell z1 _).trans (p1 1),(hG.cell z1 _).trans (p1 2),(hG.cell z1 _).trans (p1 3),(hG.cell z1 _).trans (p1 4),(hG.cell z1 _).trans (p1 5),(hG.cell z1 _).trans (p1 6),(hG.cell z2 _).trans (p2 0),(hG.cell z2 _).trans (p2 1),(hG.cell z2 _).trans (p2 2),(hG.cell z2 _).trans (p2 3),(hG.cell z2 _).trans (p2 4),(hG.cell z2 _).trans (p2 5),(hG.cell z2 _).trans (p2 6)⟩
 replace KS:=Hid.mk KS;have hG0:Gr ((w.alloc (.cells #[.bool true,.int .u64 n,.int .u64 b,.int .u64 e,.int .u64 c,.int .u8 p,.int .i64 s] 75)).alloc (.cells #[.bool true,.int .u64 tb,.int .u64 te,.int .u64 lo,.int .u64 hi,.int .u8 tp,.int .i64 ts] 130)) (((w.alloc (.cells #[.bool true,.int .u64 n,.int .u64 b,.int .u64 e,.int .u64 c,.int .u8 p,.int .i64 s] 75)).alloc (.cells #[.bool true,.int .u64 tb,.int .u64 te,.int .u64 lo,.int .u64 hi,.int .u8 tp,.int .i64 ts] 130)).drew):=(Gr.refl _).drew;clear z1 p1 z2 p2;refine wp_region_held_drew (S:=fun W=>W.cell? ⟨w.heap.size,0,none⟩=some (.bool true)∧W.cell? ⟨w.heap.size,1,none⟩=some (.int .u64 n)∧W.cell? ⟨w.heap.size,2,none⟩=some (.int .u64 b)∧W.cell? ⟨w.heap.size,3,none⟩=some (.int .u64 e)∧W.cell? ⟨w.heap.size,4,none⟩=some (.int .u64 c)∧W.cell? ⟨w.heap.size,5,none⟩=some (.int .u8 p)∧W.cell? ⟨w.heap.size,6,none⟩=some (.int .i64 s)∧W.cell? ⟨w.heap.size+1,0,none⟩=some (.bool true)∧W.cell? ⟨w.heap.size+1,1,none⟩=some (.int .u64 tb)∧W.cell? ⟨w.heap.size+1,2,none⟩=some (.int .u64 te)∧W.cell? ⟨w.heap.size+1,3,none⟩=some (.int .u64 lo)∧W.cell? ⟨w.heap.size+1,4,none⟩=some (.int .u64 hi)∧W.cell? ⟨w.heap.size+1,5,none⟩=some (.int .u8 tp)∧W.cell? ⟨w.heap.size+1,6,none⟩=some (.int .i64 ts)) (by kernel_rfl) (KS.out _ hG0) (fun hHeld=>?_)
 refine xz 0 rfl (h:=xz 1 rfl (h:=xz 2 rfl (h:=?_)));try simp only[xap]
 refine xz 3 rfl (h:=?_);try simp only[xap]
 refine xz 4 rfl (h:=?_);try simp only[xap]
 refine xz 5 rfl (h:=?_);try simp only[xap]
 refine xz 6 rfl (h:=?_);try simp only[xap]
 refine xz 7 rfl (h:=?_);try simp only[xap]
 refine xz 8 rfl (h:=?_);try simp only[xap]
 refine xrd 9 rfl (fun K hK=>?_);go_simp;go_at_call 127;refine(hc _).mono ?_;rintro x w' ⟨rfl,hG⟩;refine hK.out _ _ (KS.out _ (hG0.trans hG)) (fun hHeld=>?_);clear hK K;try simp only[xap]
 refine xtk 10 (v:=.bool false) rfl (Or.inl ⟨by rfl,?_⟩) ?_
 ·intro w hSw;(try dsimp only at hSw);go_simp;exact fun h1 h2 h3 h4=>h ⟨h1,h2,h3,h4⟩
 try simp only[xap]
 refine xz 11 rfl (h:=xz 12 rfl (h:=?_));try simp only[xap]
 refine xtk 13 (v:=undef) rfl (Or.inr ⟨by rfl,rfl⟩) ?_;try simp only[xap]
 refine xtk 14 (v:=undef) rfl (Or.inr ⟨by rfl,rfl⟩) ?_;try simp only[xap]
 refine xtk 15 (v:=undef) rfl (Or.inr ⟨by rfl,rfl⟩) ?_;try simp only[xap]
 refine xtk 16 (v:=undef) rfl (Or.inr ⟨by rfl,rfl⟩) ?_;try simp only[xap]
 refine xtk 17 (v:=undef) rfl (Or.inr ⟨by rfl,rfl⟩) ?_;try simp only[xap]
 refine xz 18 rfl (h:=xz 19 rfl (h:=?_));try simp only[xap]
 refine xdn ?_ _;clear KS hHeld;go_wp2_with fail;go_ret;refine⟨rfl,?_⟩;exact(((Gr.refl w).alloc _).alloc _).trans (hG0.trans hG)
theorem Fits_any (tag:Bool)(n b e c p s:Int)(t:PTyp)(w:World):
 Calls Tryz.prog 164 #[.agg #[.bool tag,.int .u64 n,.int .u64 b,.int .u64 e,.int .u64 c,.int .u8 p,.int .i64 s],.agg #[.bool t.cap,.int .u64 t.b,.int .u64 t.e,.int .u64 t.lo,.int .u64 t.hi,.int .u8 t.p,.int .i64 t.s]] w fun x w'=>x=.returned (.bool (fitsB tag b e c p s t))∧Gr w w':=by
 unfold fitsB;rcases t with⟨tc,tb,te,lo,hi,tp,ts⟩
 simp only
 cases tc
 ·go_enter Tryz.func164,Tryz.ntmps164;go_wp2
  all_goals
   go_ret;refine⟨ret_bool (by simp),?_⟩
   (with_reducible repeat(first|exact Gr.refl _|refine Gr.alloc ?_ _|refine Gr.grow ?_ _|refine Gr.drew ?_|refine Gr.setCell ?_ _ _ _ (gr_size ?_)))
 cases tag
 ·go_enter Tryz.func164,Tryz.ntmps164;go_wp2_with fail;go_quiet (fail);go_wp2_with fail;go_ret;refine⟨ret_bool (by simp),?_⟩;exact(((Gr.refl w).alloc _).alloc _).drewN _
 by_cases h:b=tb∧e=te∧p=tp∧s=ts
 case neg=>
  have g:(b==tb&&e==te&&p==tp&&s==ts)=false:=by
   rw[Bool.eq_false_iff];intro k;simp only[Bool.and_eq_true,beq_iff_eq]at k;exact h ⟨k.1.1.1,k.1.1.2,k.1.2,k.2⟩
  simpa [g]using Fits_no n b e c p s lo hi tb te tp ts w h
 obtain⟨rfl,rfl,rfl,rfl⟩:=h;simpa using Fits_eq n b e c p s lo hi w
namespace C
open T (Sep Ob Kp Mf TgIn boxOb Fm Tc Ed Vl Cp Bx tgOb mRow updV flt)
def HdV (a n:Nat):Bool→Ending
 |true=>.returned (.slice (some ⟨a,14,none⟩) n 15)
 |false=>pan (flt 9)
theorem RgAt.from1 {w:World}{a j:Nat}{v:Vl}(h:RgAt w a (1+j) v):w.cell? ⟨a,14+j*7,none⟩=some (.bool v.g)∧w.cell? ⟨a,14+j*7+1,none⟩=some (.int .u64 v.n)∧w.cell? ⟨a,14+j*7+2,none⟩=some (.int .u64 v.c.b)∧w.cell? ⟨a,14+j*7+3,none⟩=some (.int .u64 v.c.e)∧w.cell? ⟨a,14+j*7+4,none⟩=some (.int .u64 v.c.c)∧w.cell? ⟨a,14+j*7+5,none⟩=some (.int .u8 v.c.p)∧w.cell? ⟨a,14+j*7+6,none⟩=some (.int .i64 v.c.s):=by
 obtain⟨_,_,c0,c1,c2,c3,c4,c5,c6⟩:=h;have e:7+(1+j)*7=14+j*7:=by omega
 rw[e]at c0 c1 c2 c3 c4 c5 c6;exact⟨c0,c1,c2,c3,c4,c5,c6⟩
theorem handed_any (B:Nat)(W0:World)(a:Nat)(P:PImg)(s:Ms)(l:List Ob)(Ty:List PTyp)(ta:Option Addr)(tc:Nat)(h:MIn B W0 a P s l)(hT:FIn 7 PTyp.vals W0.heap.size W0 ta Ty)(hl:Ty.length≤7):
 Calls Tryz.prog 140 #[.pointer (some ⟨a,0,none⟩),.slice ta Ty.length tc] W0 fun x w'=>x=HdV a Ty.length (fitN s.at_.regs Ty Ty.length)∧Bl W0 w':=by
 have hF:=ζ (fun(v:Vl) (t:PTyp) X=>Fits_any v.g v.n v.c.b v.c.e v.c.c v.c.p v.c.s t X);have hE:=ζ (fail_any 9);simp only[pan]at hE;have hR:=ζ (fun X (g:Bl W0 X) j (hj:j<7)=>((h.gr g).rg (1+j) (by omega)).from1);have hlt:=h.alt;generalize hq:fitN s.at_.regs Ty Ty.length=q;replace hq:=ζ hq;replace h:=ζ h;replace hT:=ζ hT;have e1:IntKind.i64.wrap (1+(Ty.length:Int))=1+Ty.length:=by rw[IntKind.wrap_i64];omega
 have e2:(1:Int)≤1+(Ty.length:Int):=by omega
 have e3:1+(Ty.length:Int)≤16:=by omega
 have e4:(1+(Ty.length:Int) - 1).toNat=Ty.length:=by omega
 have e5:(1+(Ty.length:Int)).toNat=Ty.length+1:=by omega
 go_enter Tryz.func140,Tryz.ntmps140;go_wp2_with fail;go_loopw [18] (fun i wr=>∃j:Nat,i=.int .i64 j∧j≤Ty.length∧Bl W0 wr∧fitN s.at_.regs Ty j=true) (fun i _=>Ty.length - (intOf i).toNat)
 case atStart=>exact⟨0,rfl,Nat.zero_le _,Bl.refl _,rfl⟩
 case round=>
  obtain⟨j,rfl,hj,g,hf⟩:=hrel;by_cases hjl:j<Ty.length
  ·have jl:(j:Int)<Ty.length:=by omega
   have j15:(j:Int)<15:=by omega
   obtain⟨b,off,rfl,_,hb,hc⟩:=hT.out j hjl;obtain⟨r0,r1,r2,r3,r4,r5,r6⟩:=hR.out wr g j (by omega);have q0:=(g.cell (p:=⟨b,_,none⟩) hb).trans (hc 0 (by omega));have q1:=(g.cell (p:=⟨b,_,none⟩) hb).trans (hc 1 (by omega));have q2:=(g.cell (p:=⟨b,_,none⟩) hb).trans (hc 2 (by omega));have q3:=(g.cell (p:=⟨b,_,none⟩) hb).trans (hc 3 (by omega));have q4:=(g.cell (p:=⟨b,_,none⟩) hb).trans (hc 4 (by omega));have q5:=(g.cell (p:=⟨b,_,none⟩) hb).trans (hc 5 (by omega));have q6:=(g.cell (p:=⟨b,_,none⟩) hb).trans (hc 6 (by omega));simp only[PTyp.vals,List.getElem?_cons_zero,List.getElem?_cons_succ,Nat.add_zero]at q0 q1 q2 q3 q4 q5 q6;have hb':b<wr.heap.size:=Nat.lt_of_lt_of_le hb g.size;have hlt':a<wr.heap.size:=Nat.lt_of_lt_of_le hlt g.size;have hS:fitN s.at_.regs Ty (j+1)=vfit (s.at_.regs (1+j)) Ty[j]:=by rw[fitN,hf,List.getElem?_eq_getElem hjl];rfl
   have hv:=hF.out (s.at_.regs (1+j)) Ty[j];have hend:vfit (s.at_.regs (1+j)) Ty[j]=false→q=false:=fun e=>by
    rw[←hq.out,show Ty.length=j+1+(Ty.length - (j+1))by omega];exact fitN_down _ (hS.trans e)
   have hv':fitsB (s.at_.regs (1+j)).g (s.at_.regs (1+j)).c.b (s.at_.regs (1+j)).c.e (s.at_.regs (1+j)).c.c (s.at_.regs (1+j)).c.p (s.at_.regs (1+j)).c.s Ty[j]=vfit (s.at_.regs (1+j)) Ty[j]:=rfl;rw[hv']at hv;clear hc hv' r0 r1 r2 r3 r4 r5 r6;have KR:=ζ (fun X (g:Bl W0 X)=>hR.out X g j (by omega));generalize vfit (s.at_.regs (1+j)) Ty[j]=fb at*;generalize s.at_.regs (1+j)=v at*;generalize Ty[j]=t at*;replace hS:=ζ hS;replace hend:=ζ hend;replace hf:=ζ hf;replace hv:=ζ hv;go_upto_region 5 with fail
   refine wp_world (fun X=>At X wr.heap.size #[.bool t.cap,.int .u64 t.b,.int .u64 t.e,.int .u64 t.lo,.int .u64 t.hi,.int .u8 t.p,.int .i64 t.s]∧Bl W0 X) ⟨At.new wr #[.bool t.cap,.int .u64 t.b,.int .u64 t.e,.int .u64 t.lo,.int .u64 t.hi,.int .u8 t.p,.int .i64 t.s] 130,g.alloc _⟩ ?_;rintro X ⟨A0,gX⟩;clear q0 q1 q2 q3 q4 q5 q6 g hb';generalize wr.heap.size=kt at*;have KA:∀Y,Bl X Y→At Y kt #[.bool t.cap,.int .u64 t.b,.int .u64 t.e,.int .u64 t.lo,.int .u64 t.hi,.int .u8 t.p,.int .i64 t.s]:=fun Y gY=>T.at_below A0 gY A0.1
   have KS:=ζ (fun Y (gY:Bl X Y)=>And.intro (KR.out Y (gX.trans gY)) (And.intro ((KA Y gY).2.1 0) (And.intro ((KA Y gY).2.1 1) (And.intro ((KA Y gY).2.1 2) (And.intro ((KA Y gY).2.1 3) (And.intro ((KA Y gY).2.1 4) (And.intro ((KA Y gY).2.1 5) ((KA Y gY).2.1 6))))))));have hlX:a<X.heap.size:=Nat.lt_of_lt_of_le hlt gX.size;have hkX:kt<X.heap.size:=A0.1;replace KA:=ζ KA;replace A0:=ζ A0;replace gX:=ζ gX;go_region_held3 (fun Y=>(Y.cell? ⟨a,14+j*7,none⟩=some (.bool v.g)∧Y.cell? ⟨a,14+j*7+1,none⟩=some (.int .u64 v.n)∧Y.cell? ⟨a,14+j*7+2,none⟩=some (.int .u64 v.c.b)∧Y.cell? ⟨a,14+j*7+3,none⟩=some (.int .u64 v.c.e)∧Y.cell? ⟨a,14+j*7+4,none⟩=some (.int .u64 v.c.c)∧Y.cell? ⟨a,14+j*7+5,none⟩=some (.int .u8 v.c.p)∧Y.cell? ⟨a,14+j*7+6,none⟩=some (.int .i64 v.c.s))∧Y.cell? ⟨kt,0,none⟩=some (.bool t.cap)∧Y.cell? ⟨kt,1,none⟩=some (.int .u64 t.b)∧Y.cell? ⟨kt,2,none⟩=some (.int .u64 t.e)∧Y.cell? ⟨kt,3,none⟩=some (.int .u64 t.lo)∧Y.cell? ⟨kt,4,none⟩=some (.int .u64 t.hi)∧Y.cell? ⟨kt,5,none⟩=some (.int .u8 t.p)∧Y.cell? ⟨kt,6,none⟩=some (.int .i64 t.s)) ((refine KS.out _ ?_;(repeat(first|assumption|with_reducible exact Bl.refl _|with_reducible refine Bl.alloc ?_ _|with_reducible refine Bl.drew ?_)))) (first|(go_at_call 164;refine(hv.out _).mono ?_;rintro y X1 ⟨rfl,e1⟩;have g1:Bl X X1:=Bl.trans (by(repeat(first|assumption|with_reducible exact Bl.refl _|with_reducible refine Bl.alloc ?_ _|with_reducible refine Bl.drew ?_))) e1.below))
   all_goals
    cases fb
    ·go_wp2_with(refine(hE.out _).mono ?_;rintro y X2 ⟨rfl,rfl⟩);have:q=false:=hend.out (by first|rfl|trivial);subst this;exact⟨rfl,rfl,gX.out.trans g1⟩
    ·go_wp2_with fail;exact⟨⟨j+1,by go_num,by omega,gX.out.trans g1,hS.out⟩,by simp[intOf];omega⟩
  ·have jl:¬(j:Int)<Ty.length:=by omega
   have:j=Ty.length:=by omega
   subst this;have hqt:q=true:=hq.out.symm.trans hf;subst hqt;go_wp2_with fail;go_ret;exact⟨rfl,g⟩
open T (Sep Ob Kp Mf TgIn boxOb Fm Tc Ed Vl Cp Bx tgOb mRow mRow_idx mRow_tail mRow_at updV flt Vl.row_len kp_setCells setCells_size)
theorem mRow_fm (p0 p1 p2:Value)(d:Int)(km:Nat)(f:Fm)(st inp out tou:Value)(o:Ed)(j:Nat)(hj:j<114):
 (mRow p0 p1 p2 d km f st inp out tou o)[5+j]?=f.row[j]?:=by
 rw[mRow_idx,fmRow_idx];by_cases h0:j=0
 ·subst h0;rfl
 ·by_cases h1:j=1
  ·subst h1;rfl
  ·rw[if_neg (by omega),if_pos (by omega),if_neg h0,if_neg h1,if_pos hj,show 5+j - 7=j - 2 by omega]
theorem mRow_nofm (p0 p1 p2:Value)(d:Int)(km:Nat)(f f':Fm)(st inp out tou:Value)(o:Ed)(x:Nat)(hx:x<5∨119≤x):
 (mRow p0 p1 p2 d km f st inp out tou o)[x]?=(mRow p0 p1 p2 d km f' st inp out tou o)[x]?:=by
 rw[mRow_idx,mRow_idx];rcases hx with hx|hx
 ·rw[if_pos (by omega),if_pos (by omega)]
  match x,hx with
  |0,_=>rfl
  |1,_=>rfl
  |2,_=>rfl
  |3,_=>rfl
  |4,_=>rfl
 ·rw[if_neg (by omega),if_neg (by omega),if_neg (by omega),if_neg (by omega)]
theorem fm_one (f:Fm):f.row.toArray.all (fun x=>x.oneCell')=true:=by
 rw[Array.all_eq_true_iff_forall_mem];intro u hu;exact oneCell_row f u (by simpa using hu)
theorem fm_info (f:Fm):(Tryz.prog.info? 78).map (·.size)=some f.row.toArray.size:=by rw[List.size_toArray];exact info85
section
variable {B:Nat} {W W':World} {a:Nat} {P:PImg} {s s':Ms} {l:List Ob}
theorem MIn.handAt (h:MIn B W a P s l):W.rangeAt a 5 s.at_.row:=fun j v q=>by
 obtain⟨p,hb,_⟩:=h.parts;have hj:j<114:=by have:=(List.getElem?_eq_some_iff.1 q).1;rwa [fmRow_len]at this
 exact hb.at_ (5+j) v ((mRow_fm _ _ _ _ _ _ _ _ _ _ _ j hj).trans q)
theorem MIn.there5 (h:MIn B W a P s l)(f:Fm):W.there a 5 f.row.toArray.size:=fun j hj=>by
 obtain⟨p,hb,_⟩:=h.parts;have hj':j<114:=by rw[List.size_toArray,fmRow_len]at hj;exact hj
 have e:s.at_.row[j]?=some (s.at_.row[j]'(by rw[fmRow_len];exact hj')):=List.getElem?_eq_getElem _;exact⟨by rw[hb.at_ (5+j) _ ((mRow_fm _ _ _ _ _ _ _ _ _ _ _ j hj').trans e)];rfl,hb.fr _⟩
theorem MIn.hand (h:MIn B W a P s l)(f:Fm):MIn B (W.setCells a 5 f.row) a P {s with at_:=f} l∧Below B W (W.setCells a 5 f.row):=by
 have ht:=h.there5 f;refine h.box (s':={s with at_:=f}) ⟨rfl,rfl,rfl,rfl,rfl,rfl⟩ (fun q hb=>⟨by rw[setCells_size];exact hb.lt,fun x u e=>?_,fun x=>by rw[World.frozen?_setCells];exact hb.fr x⟩) (kp_setCells (fun k=>k=a) a rfl _ _ W);by_cases hx:x<5∨119≤x
 ·rw[World.cell?_setCells_out a f.row 5 W _ (fun _ _=>by rw[fmRow_len];exact hx)];exact hb.at_ x u ((mRow_nofm _ _ _ _ _ _ _ _ _ _ _ _ x hx).trans e)
 ·obtain⟨j,rfl⟩:∃j,x=5+j:=⟨x - 5,by omega⟩;have hj:j<f.row.length:=by rw[fmRow_len];omega
  have e2:=(mRow_fm (.slice q.ra P.regs.length q.rc) (.slice q.ca P.comps.length q.cc) (.slice q.ga P.gates.length q.gc) P.depth q.km f q.sv q.iv q.ov_ q.tv s.over j (by omega)).symm.trans e;rw[World.cell?_setCells_in a f.row 5 W (fun i hi=>(ht i (by rw[List.size_toArray];exact hi)).1) j hj,←e2,List.getElem?_eq_getElem hj]
theorem frs_len (L:List Fm):(L.flatMap Fm.row).length=L.length*114:=flat_len fmRow_len L
theorem MIn.depAt (h:MIn B W a P s l):W.cell? ⟨a,3,none⟩=some (.int .i64 P.depth)∧∃ta tk,W.cell? ⟨a,119,none⟩=some (.slice ta s.st.length tk):=by
 obtain⟨⟨q,h1,_⟩,le⟩:=h;have hb:Bx W a (rowOf P s q):=h1.ins (bx_ a (rowOf P s q)) (by simp[obs]);have hO:W.ownsRow B 78 114 q.sv s.st.length (s.st.flatMap Fm.row):=h1.ins (stOb B q.sv s.st) (by simp[obs]);obtain⟨ta,tk,e⟩:=own_slZ hO;exact⟨hb.at_ 3 _ (by unfold rowOf;rw[mRow_idx];rfl),ta,tk,by rw[←e];exact hb.at_ 119 _ (mRow_at 0)⟩
theorem MIn.progAt (h:MIn B W a P s l):∃ra rc ca cc ga gc,W.cell? ⟨a,0,none⟩=some (.slice ra P.regs.length rc)∧W.cell? ⟨a,1,none⟩=some (.slice ca P.comps.length cc)∧W.cell? ⟨a,2,none⟩=some (.slice ga P.gates.length gc)∧W.cell? ⟨a,3,none⟩=some (.int .i64 P.depth)∧∀X,Bl W X→ImgIn X.heap.size X ra ca ga P:=by
 obtain⟨q,hb,hI,_⟩:=h.parts;refine⟨q.ra,q.rc,q.ca,q.cc,q.ga,q.gc,hb.at_ 0 _ ?_,hb.at_ 1 _ ?_,hb.at_ 2 _ ?_,hb.at_ 3 _ ?_,fun X g=>(hI.below g).mono g.size⟩<;>(unfold rowOf;rw[mRow_idx];rfl)
theorem MIn.gateTy (h:MIn B W a P s l)(g:Nat)(hg:g<P.gates.length):∃(b off gc:Nat) (xa:Option Addr) (xc:Nat) (ya:Option Addr) (yc:Nat),W.cell? ⟨a,2,none⟩=some (.slice (some ⟨b,off,none⟩) P.gates.length gc)∧b<W.heap.size∧W.cell? ⟨b,off+g*4+2,none⟩=some (.slice xa P.gates[g].args.length xc)∧W.cell? ⟨b,off+g*4+3,none⟩=some (.slice ya P.gates[g].res.length yc)∧∀X,Bl W X→FIn 7 PTyp.vals X.heap.size X xa P.gates[g].args∧FIn 7 PTyp.vals X.heap.size X ya P.gates[g].res:=by
 obtain⟨q,hb,hI,_⟩:=h.parts;obtain⟨b,off,xa,xc,ya,yc,e,hlt,hlt2,c0,c1,c2,c3,f1,f2⟩:=hI.gates g hg;refine⟨b,off,q.gc,xa,xc,ya,yc,?_,hlt2,c2,c3,fun X gX=>⟨(f1.below gX).mono gX.size,(f2.below gX).mono gX.size⟩⟩;rw[←e];exact hb.at_ 2 _ (by unfold rowOf;rw[mRow_idx];rfl)
theorem build_frs (f:Fm)(W:World):(Instr.buildSlice 79 1 #[(0,.agg f.row.toArray)]).run Tryz.prog W=.ok (.slice (some ⟨W.heap.size,0,none⟩) 1 1) (W.alloc (.cells f.row.toArray 78)):=by kernel_rfl
theorem wp_build_frs {o:Oper}{a:Act}{K:Act→World→Prop}{Q:Exit→Act→World→Prop}{w:World}(x:Operand)(ho:o.op=.buildSlice 79 1 #[(0,x)])(f:Fm)(hx:a.eval x=.agg f.row.toArray)
 (h:K (a.put o.dst (.slice (some ⟨w.heap.size,0,none⟩) 1 1)) (w.alloc (.cells f.row.toArray 78))):o.wp Tryz.prog a w K Q:=by
 unfold Oper.wp execOp;simp only[ho,List.map_toArray,List.map_cons,List.map_nil,hx,build_frs,Sem.run_bind,Sem.run_pure,Result.andThen_ok];exact h
theorem own_pop {w:World}{lo e k n:Nat}{v:Value}{xs ys:List Value}{a:Option Addr}{c:Nat}(h:w.ownsRow lo e k v (n+1) xs)(hv:v=.slice a (n+1) c)(hy:ys=xs.take (n*k)):w.ownsRow lo e k (.slice a n c) n ys:=by
 subst hv;rcases h.2 with⟨_,h9⟩|⟨g,cap,cur,e1,hb,hg,hc1,hc2,hc3,hc4⟩
 ·omega
 ·injection e1 with e1 e2 e3
  subst e1 e3;have hx:=h.1;have hle:n*k≤(n+1)*k:=Nat.mul_le_mul_right k (by omega);refine⟨by rw[hy,List.length_take,hx];omega,.inr ⟨g,c,cur,rfl,hb,hg,by omega,hc2,hc3,?_⟩⟩;rw[hy,←hc4,List.take_take,Nat.min_eq_left hle]
theorem MIn.top (h:MIn B W a P s l)(L:List Fm)(t:Fm)(hs:s.st=L++[t]):∃g c,W.cell? ⟨a,119,none⟩=some (.slice (some ⟨g,0,none⟩) (L.length+1) c)∧L.length+1≤c∧g<W.heap.size∧W.frozen? ⟨a,119,none⟩=false∧W.rangeAt g (L.length*114) t.row∧
 (MIn B (W.setCell ⟨a,119,none⟩ (.slice (some ⟨g,0,none⟩) L.length c)) a P {s with st:=L} l∧Below B W (W.setCell ⟨a,119,none⟩ (.slice (some ⟨g,0,none⟩) L.length c))):=by
 obtain⟨⟨q,h1,hpg⟩,le⟩:=h;have hb:Bx W a (rowOf P s q):=h1.ins (bx_ a (rowOf P s q)) (by simp[obs]);have hO:W.ownsRow B 78 114 q.sv s.st.length (s.st.flatMap Fm.row):=h1.ins (stOb B q.sv s.st) (by simp[obs]);have hlt:=hO.lt;rw[hs]at hO;rw[List.length_append]at hO;obtain⟨ta,tk,etv⟩:=own_slZ hO;have hpop:=own_pop (n:=L.length) (ys:=L.flatMap Fm.row) hO etv (by rw[List.flatMap_append,List.take_append_of_le_length (by rw[frs_len];exact Nat.le_refl _),List.take_of_length_le (by rw[frs_len];exact Nat.le_refl _)]);rcases hO.2 with⟨_,h9⟩|⟨g,cap,cur,e1,hbb,hg,hc1,hc2,hc3,hc4⟩
 ·simp at h9
 ·rw[etv]at e1;injection e1 with e1 e2 e3
  subst e1 e3;have hgl:g<W.heap.size:=(hlt g (by rw[etv];rfl)).2;refine⟨g,tk,by have:=hb.at_ 119 _ (mRow_at 0);rw[etv]at this;exact this,hc1,hgl,hb.fr 119,fun j v qj=>?_,?_⟩
  ·have hj:j<114:=by have:=(List.getElem?_eq_some_iff.1 qj).1;rwa [fmRow_len]at this
   have hf:=flat_at' (f:=Fm.row) fmRow_len (L++[t]) L.length (by simp) j hj;rw[List.getElem_append_right (by omega)]at hf;simp only[Nat.sub_self,List.getElem_cons_zero]at hf;rw[qj,←hc4,List.getElem?_take_of_lt (by simp;omega)]at hf;have:W.cell? ⟨g,L.length*114+j,none⟩=cur[L.length*114+j]?:=by simp[World.cell?,hg]
   rw[this,←hf];simp
  ·have h2:=sep_change (W':=W) (l1:=[bx_ a (rowOf P s q),tgOb q.SM q.km s.b s.t]) (o:=stOb B q.sv s.st) (o':=stOb B (.slice (some ⟨g,0,none⟩) L.length tk) L) (l2:=inOb q.iv s.inp::ouOb B q.ov_ s.out::tcOb B q.tv s.tou::snapOb q.lo q.W0::l) h1 hpop (Kp.refl _ W) (fun k r=>.inl (by
    show q.sv.ownBlock=some k;rw[etv];exact r)) le
   obtain⟨h3,b3⟩:=sep_box (rowOf P s q) (rowOf P {s with st:=L} {q with sv:=.slice (some ⟨g,0,none⟩) L.length tk}) h2 (.slice (some ⟨g,0,none⟩) L.length tk) 119 (fun hb=>T.Bx.setAt 119 _ hb (mRow_tail 0 (fun y hy=>by
    match y,hy with
    |0,hy=>first|rfl|exact absurd rfl hy
    |1,_=>rfl
    |2,_=>rfl
    |3,_=>rfl
    |4,_=>rfl
    |5,_=>rfl
    |6,_=>rfl
    |_+7,_=>rfl)) (mRow_at 0) ⟨_,mRow_at 0⟩) le
   exact⟨⟨⟨{q with sv:=.slice (some ⟨g,0,none⟩) L.length tk},h3,hpg⟩,Nat.le_trans le b3.size⟩,b3⟩
theorem MIn.push (h:MIn B W a P s l)(t:Fm)(st0:List Fm)(f0:Fm)(xs:List Value)(e0:s.st=st0)(e1:s.at_=f0)(e2:st0.flatMap Fm.row=xs):∃ta tk,W.cell? ⟨a,119,none⟩=some (.slice ta st0.length tk)∧(∀V,Bl W V→V.ownsRow B 78 114 (.slice ta st0.length tk) st0.length xs)∧∀V W2 g cap,Bl W V→W2.ownsRow B 78 114 (.slice (some ⟨g,0,none⟩) (st0.length+1) cap) (st0.length+1) (xs++t.row)→V.grownBy W2 (Value.slice ta st0.length tk).ownBlock→((Value.slice ta st0.length tk).ownBlock=some g∨g=V.heap.size)→
 (∃u,W2.cell? ⟨a,119,none⟩=some u)∧W2.frozen? ⟨a,119,none⟩=false∧W2.rangeAt a 5 f0.row∧MIn B (W2.setCell ⟨a,119,none⟩ (.slice (some ⟨g,0,none⟩) (st0.length+1) cap)) a P {s with st:=st0++[t]} l∧Below B W (W2.setCell ⟨a,119,none⟩ (.slice (some ⟨g,0,none⟩) (st0.length+1) cap)):=by
 subst e0 e1 e2;obtain⟨⟨q,h1,hpg⟩,le⟩:=h;have hb:Bx W a (rowOf P s q):=h1.ins (bx_ a (rowOf P s q)) (by simp[obs]);have hO:W.ownsRow B 78 114 q.sv s.st.length (s.st.flatMap Fm.row):=h1.ins (stOb B q.sv s.st) (by simp[obs]);obtain⟨ta,tk,etv⟩:=own_slZ hO;refine⟨ta,tk,by rw[←etv];exact hb.at_ 119 _ (mRow_at 0),fun V g=>by rw[←etv];exact own_keep hO (Kp.of_below (S:=fun _=>False) g) (fun _ _ r=>r),fun V W2 g cap g1 k1 k2 k3=>?_⟩;rw[←etv]at k2 k3;have r:=MIn.app_st t (h1.gr g1) hpg (Nat.le_trans le g1.size) k1 k2 k3;refine⟨⟨_,r.1.at_ 119 _ (mRow_at 0)⟩,r.1.fr 119,fun j v qj=>?_,r.2.2.1,(Below.mono g1 le).trans r.2.2.2⟩;have hj:j<114:=by have:=(List.getElem?_eq_some_iff.1 qj).1;rwa [fmRow_len]at this
 exact r.1.at_ (5+j) v ((mRow_fm _ _ _ _ _ _ _ _ _ _ _ j hj).trans qj)
end
open T (Sep Ob Kp Mf TgIn boxOb Fm Tc Ed Vl Cp Bx tgOb mRow updV flt ofI accessF twoI toldI twoI_nonneg ldV ldE stB stT lcV lcE scB scT leB leB_lt offT updT wordB granB)
structure POk (P:PImg):Prop where
 gates:∀g (h:g<P.gates.length),0≤P.gates[g].c∧P.gates[g].c<P.comps.length∧0≤P.gates[g].e∧P.gates[g].e<(codeOf P (kOf P g)).length∧P.gates[g].args.length≤7∧P.gates[g].res.length≤7
 roots:∀k,(rootsOf P k).length≤8∧∀x∈rootsOf P k,8≤x.r∧x.r<16∧W64 x.b∧W64 x.e∧W64 x.c∧B8 x.p∧0≤x.s∧x.s≤15
 code:∀k,(codeOf P k).length≤400∧∀i∈codeOf P k,IOk P k i
 cl:P.comps.length≤4
 gl:P.gates.length≤16
 dp:1≤P.depth∧P.depth≤16
theorem kOf_at (P:PImg)(g:Nat)(h:g<P.gates.length):kOf P g=P.gates[g].c.toNat:=by unfold kOf;rw[List.getElem?_eq_getElem h];rfl
theorem eOf_at (P:PImg)(g:Nat)(h:g<P.gates.length):eOf P g=P.gates[g].e.toNat:=by unfold eOf;rw[List.getElem?_eq_getElem h];rfl
theorem argsOf_at (P:PImg)(g:Nat)(h:g<P.gates.length):argsOf P g=P.gates[g].args:=by unfold argsOf;rw[List.getElem?_eq_getElem h];rfl
theorem resOf_at (P:PImg)(g:Nat)(h:g<P.gates.length):resOf P g=P.gates[g].res:=by unfold resOf;rw[List.getElem?_eq_getElem h];rfl
theorem codeOf_at (P:PImg)(k:Nat)(h:k<P.comps.length):codeOf P k=P.comps[k].code:=by unfold codeOf;rw[List.getElem?_eq_getElem h];rfl
theorem rootsOf_at (P:PImg)(k:Nat)(h:k<P.comps.length):rootsOf P k=P.comps[k].roots:=by unfold rootsOf;rw[List.getElem?_eq_getElem h];rfl
theorem POk.kl {P:PImg}(h:POk P)(g:Nat)(hg:g<P.gates.length):kOf P g<P.comps.length∧P.gates[g].c=(kOf P g:Nat)∧P.gates[g].e=(eOf P g:Nat)∧eOf P g<(codeOf P (kOf P g)).length:=by
 obtain⟨h1,h2,h3,h4,_,_⟩:=h.gates g hg;rw[eOf_at P g hg];rw[kOf_at P g hg]at h4 ⊢;omega
theorem roots_len:∀(L:List PRoot) (f:Int),rootsR L f=true→f≤15→(L.length:Int)+f≤15
 |[],f,_,hf=>by simpa using hf
 |k::l,f,h,hf=>by
  unfold rootsR at h
  split at h
  ·rename_i q
   have:=roots_len l k.r h (by omega);simp only[List.length_cons];omega
  ·cases h
theorem roots_mem:∀(L:List PRoot) (f:Int),rootsR L f=true→∀x∈L,f<x.r∧x.r<16∧dataB x.b x.e x.p x.s=true
 |[],_,_=>fun x hx=>by cases hx
 |k::l,f,h=>by
  unfold rootsR at h
  split at h
  ·rename_i q
   intro x hx;rcases List.mem_cons.1 hx with rfl|hx
   ·exact q
   ·have:=roots_mem l k.r h x hx;exact⟨by omega,this.2⟩
  ·cases h
theorem code_mem {c g:Int}:∀(L:List Ins),codeF c g L=0→∀i∈L,i.right=0∧tgtB i.op i.m c g=true
 |[],_=>fun i hi=>by cases hi
 |k::l,h=>by
  unfold codeF at h
  split at h
  ·rename_i q
   split at h
   ·rename_i q2
    intro i hi;rcases List.mem_cons.1 hi with rfl|hi
    ·exact⟨q,q2⟩
    ·exact code_mem l h i hi
   ·omega
  ·rename_i q
   exact absurd h q
theorem comps_mem {g:Int}:∀(L:List PComp),compsR g L=0→∀c∈L,rootsR c.roots 7=true∧codeR c.code g=0
 |[],_=>fun c hc=>by cases hc
 |k::l,h=>by
  unfold compsR at h
  split at h
  ·rename_i q
   split at h
   ·rename_i q2
    intro c hc;rcases List.mem_cons.1 hc with rfl|hc
    ·exact⟨q,q2⟩
    ·exact comps_mem l h c hc
   ·rename_i q2
    exact absurd h q2
  ·omega
theorem gates_mem {C:List PComp}:∀(L:List PGate),gatesR C L=0→∀g∈L,hasI C g.c g.e=true∧g.args.length≤7∧g.res.length≤7∧typesR g.args=true∧typesR g.res=true
 |[],_=>fun g hg=>by cases hg
 |k::l,h=>by
  unfold gatesR at h
  split at h
  ·rename_i q
   split at h
   ·rename_i q2
    intro g hg;rcases List.mem_cons.1 hg with rfl|hg
    ·simp only[Bool.and_eq_true,decide_eq_true_eq]at q q2;exact⟨q.1.1,q.1.2,q.2,q2⟩
    ·exact gates_mem l h g hg
   ·omega
  ·omega
theorem dataB_s {b e p s:Int}(h:dataB b e p s=true):0≤s∧s≤15:=by
 simp only[dataB,rightB,Bool.and_eq_true,decide_eq_true_eq]at h;exact⟨h.1.1.2,h.1.2⟩
theorem pok_of (m:PImg)(h:m.right=0)(hr:m.Rng):POk {m with regs:=[]}:=by
 unfold PImg.right at h
 split at h
 ·rename_i hc
  split at h
  ·split at h
   ·rename_i h2
    simp only[countsB,Bool.and_eq_true,decide_eq_true_eq]at hc;have hC:=comps_mem _ h2;have hG:=gates_mem _ h;refine⟨fun g hg=>?_,fun k=>?_,fun k=>?_,by show m.comps.length≤4;omega,by show m.gates.length≤16;omega,by show 1≤m.depth∧m.depth≤16;omega⟩
    ·obtain⟨q1,q2,q3,_,_⟩:=hG m.gates[g] (List.getElem_mem hg);unfold hasI at q1
     split at q1
     ·rename_i q4
      have hk:m.gates[g].c.toNat<m.comps.length:=by omega
      rw[List.getElem?_eq_getElem hk]at q1;have q5:m.gates[g].e<(m.comps[m.gates[g].c.toNat].code.length:Int):=by simpa using q1
      rw[kOf_at {m with regs:=[]} g hg,codeOf_at {m with regs:=[]} _ hk];exact⟨q4.1,q4.2.1,q4.2.2,q5,q2,q3⟩
     ·cases q1
    ·by_cases hk:k<m.comps.length
     ·rw[rootsOf_at {m with regs:=[]} k hk];obtain⟨q1,_⟩:=hC m.comps[k] (List.getElem_mem hk);have q2:=roots_len _ _ q1 (by omega);refine⟨by show m.comps[k].roots.length≤8;omega,fun x hx=>?_⟩;obtain⟨a1,a2,a3⟩:=roots_mem _ _ q1 x hx;have a4:=dataB_s a3;have a5:=(hr.comps.2 m.comps[k] (List.getElem_mem hk)).2.2.2 x hx;exact⟨by omega,a2,a5.2.1,a5.2.2.1,a5.2.2.2.1,a5.2.2.2.2.1,a4.1,a4.2⟩
     ·have:rootsOf {m with regs:=[]} k=[]:=by unfold rootsOf;rw[List.getElem?_eq_none (by show m.comps.length≤k;omega)];rfl
      rw[this];exact⟨Nat.zero_le _,fun x hx=>by cases hx⟩
    ·by_cases hk:k<m.comps.length
     ·have hck:=codeOf_at {m with regs:=[]} k hk;obtain⟨_,q1⟩:=hC m.comps[k] (List.getElem_mem hk);unfold codeR at q1
      split at q1
      ·omega
      ·rename_i q2
       refine⟨by rw[hck];show m.comps[k].code.length≤400;omega,fun i hi=>?_⟩;have hi':i∈m.comps[k].code:=by rw[hck]at hi;exact hi
       obtain⟨a1,a2⟩:=code_mem _ q1 i hi';have a3:=(hr.comps.2 m.comps[k] (List.getElem_mem hk)).2.2.1 i hi';exact iok_of _ k i a3.1 a3.2 a1 (by rw[hck];exact a2)
     ·have:codeOf {m with regs:=[]} k=[]:=by unfold codeOf;rw[List.getElem?_eq_none (by show m.comps.length≤k;omega)];rfl
      rw[this];exact⟨Nat.zero_le _,fun x hx=>by cases hx⟩
   ·rename_i h2
    exact absurd h h2
  ·rename_i h2
   exact absurd h h2
 ·omega
structure COk (x:Cp):Prop where
 b:W64 x.b
 e:W64 x.e
 c:W64 x.c
 p:B8 x.p
 s:0≤x.s∧x.s≤15
structure VOk (v:Vl):Prop where
 n:v.n<18446744073709551616
 c:COk v.c
 i:v.g=true→v.n=0
 z:v.g=false→v.c=Cp.zero
structure FOk (P:PImg)(x:Fm):Prop where
 g:x.gate<P.gates.length
 pc:x.pc≤(codeOf P (kOf P x.gate)).length
 r:∀j,VOk (x.regs j)
structure Okm (P:PImg)(n:Nat)(s:Ms):Prop where
 f:FOk P s.at_
 st:∀f∈s.st,FOk P f
 dp:(s.st.length:Int)≤P.depth
 inp:s.inp.length≤140737488355328∧∀x∈s.inp,W64 x
 out:s.out.length≤n
 tou:s.tou.length≤n
 t:∀g c,s.t g=some c→COk c
theorem cok_zero:COk Cp.zero:=⟨⟨by decide,by decide⟩,⟨by decide,by decide⟩,⟨by decide,by decide⟩,⟨by decide,by decide⟩,by decide,by decide⟩
theorem vok_z:VOk zV:=⟨by decide,cok_zero,fun h=>(by cases h),fun _=>rfl⟩
theorem wrap64_in (x:Int):W64 (IntKind.u64.wrap x):=⟨wrap_u64_nonneg _,by rw[IntKind.wrap_u64];omega⟩
theorem wrap64_lt (x:Int):IntKind.u64.wrap x<18446744073709551616:=(wrap64_in x).2
theorem vok_ofI {x:Int}(h:W64 x):VOk (ofI x):=⟨by have:=h.2;have:=h.1;show x.toNat<_;omega,cok_zero,fun q=>(by cases q),fun _=>rfl⟩
theorem vok_nat {n:Nat}(h:n<18446744073709551616):VOk (intV n):=⟨h,cok_zero,fun q=>(by cases q),fun _=>rfl⟩
theorem vok_ofC {c:Cp}(h:COk c):VOk (ofC c):=⟨by show(0:Nat)<18446744073709551616;decide,h,fun _=>rfl,fun q=>by cases q⟩
theorem told_in (b:Bool):W64 (toldI b):=by cases b<;>exact⟨by decide,by decide⟩
theorem told_lt (b:Bool):toldI b<18446744073709551616:=(told_in b).2
theorem two_in (op:Int)(b c:Nat)(hb:b<18446744073709551616):W64 (twoI op b c):=by
 have h0:=twoI_nonneg op b c (Int.natCast_nonneg b);refine And.intro h0 ?_;clear h0;show twoI op b c<18446744073709551616;unfold twoI
 repeat' split
 all_goals first
  |with_reducible exact wrap64_lt _
  |with_reducible exact Int.lt_of_le_of_lt (bits_hi_u64 _ _ _) (by decide)
  |with_reducible exact told_lt _
  |(have h1:(b:Int)/2^((c:Int)%64).toNat≤b:=Int.ediv_le_self _ (by omega);omega)
theorem vok_upd {r:Nat→Vl}(h:∀j,VOk (r j))(i:Nat){v:Vl}(hv:VOk v):∀j,VOk (updV r i v j):=fun j=>by
 unfold updV;split
 ·exact hv
 ·exact h j
theorem vok_ov {r u:Nat→Vl}(h:∀j,VOk (r j))(hu:∀j,VOk (u j))(n:Nat):∀j,VOk (ovF r u n j):=fun j=>by
 unfold ovF;split
 ·exact h j
 ·exact hu j
section
variable {P:PImg} {n:Nat} {s s':Ms}
theorem okm_lay (h:Okm P n s)(hp:s.at_.pc<(codeOf P (kOf P s.at_.gate)).length)(A:Nat){v:Vl}(hv:VOk v):Okm P (n+1) (s.put A v).next:=
 ⟨⟨h.f.g,hp,vok_upd h.f.r A hv⟩,h.st,h.dp,h.inp,Nat.le_succ_of_le h.out,Nat.le_succ_of_le h.tou,h.t⟩
theorem okm_go (h:Okm P n s){k:Nat}(hk:k≤(codeOf P (kOf P s.at_.gate)).length):Okm P (n+1) (s.goTo k):=
 ⟨⟨h.f.g,hk,h.f.r⟩,h.st,h.dp,h.inp,Nat.le_succ_of_le h.out,Nat.le_succ_of_le h.tou,h.t⟩
theorem lay_ok {q:Except Ed Vl}{A:Nat}(h:layM s A q=.ok s'):∃v,q=.ok v∧s'=(s.put A v).next:=by
 cases q with
 |error e=>cases h
 |ok v=>injection h with h;exact⟨v,rfl,h.symm⟩
theorem cok_inc {c:Cp}(h:COk c)(x:Int):COk (incF c x).1:=by
 unfold incF;split
 ·exact⟨h.b,h.e,wrap64_in _,h.p,h.s⟩
 ·exact cok_zero
theorem cok_set {c:Cp}(h:COk c)(x:Int):COk (setF c x).1:=by
 unfold setF;split
 ·split
  ·show COk ⟨c.c,IntKind.u64.wrap (c.c+x),c.c,c.p,c.s⟩;exact COk.mk h.c (wrap64_in _) h.c h.p h.s
  ·exact cok_zero
 ·exact cok_zero
theorem cok_and {c:Cp}(h:COk c)(x:Int):COk (andF c x).1:=by
 unfold andF;split
 ·have h1:=bits_lo_u8 .and c.p x;have h2:=bits_hi_u8 .and c.p x;generalize bits .and .u8 c.p x=y at*;exact COk.mk h.b h.e h.c (And.intro h1 (by show y<256;omega)) h.s
 ·exact cok_zero
theorem cok_s {c:Cp}(h:COk c){x:Int}(hx:0≤x∧x≤15):COk ⟨c.b,c.e,c.c,c.p,x⟩:=⟨h.b,h.e,h.c,h.p,hx⟩
theorem cok_seal {c y:Cp}(h:COk c):COk (sealF c y).1:=by
 unfold sealF;split
 ·split
  ·split
   ·exact cok_zero
   ·rename_i q;exact cok_s h (by omega)
  ·exact cok_zero
 ·exact cok_zero
theorem cok_uns {c y:Cp}(h:COk c):COk (unsF c y).1:=by
 unfold unsF;split
 ·exact cok_zero
 ·split
  ·split
   ·exact cok_zero
   ·exact cok_s h (by decide)
  ·exact cok_zero
theorem made_in {op m:Int}{v u:Vl}(hv:VOk v){r:Cp×Int}(h:madeR op m v u=.ok r):COk r.1:=by
 unfold madeR at h
 repeat' split at h
 all_goals first
  |(injection h with h;subst h;with_reducible first|exact cok_inc hv.c _|exact cok_set hv.c _|exact cok_and hv.c _|exact cok_seal hv.c|exact cok_uns hv.c)
  |cases h
theorem der_in {op m:Int}{v u:Vl}(hv:VOk v){c:Cp}(h:derR op m v u=.ok c):COk c:=by
 unfold derR at h
 cases hq:madeR op m v u with
 |error e=>rw[hq]at h;cases h
 |ok r=>
  rw[hq]at h;simp only at h
  split at h
  ·injection h with h;subst h;exact made_in hv hq
  ·cases h
theorem ask_in {op:Int}{v u:Vl}(hv:VOk v){x:Int}(h:askR op v u=.ok x):W64 x:=by
 unfold askR partF at h
 repeat' split at h
 all_goals first
  |(injection h with h;subst h;first|exact told_in _|exact hv.c.c|exact hv.c.b|exact hv.c.e|exact wrap64_in _)
  |cases h
theorem rec_in {op m:Int}{B C:Nat}(hs:∀j,VOk (s.at_.regs j)){v:Vl}(h:recM s op B C m=.ok v):VOk v:=by
 unfold recM twoR at h
 repeat' split at h
 all_goals first
  |(injection h with h;subst h;first|exact vok_ofI (wrap64_in _)|exact hs _|exact vok_ofI (two_in _ _ _ (hs _).n))
  |cases h
theorem ld_lt (b:Nat→UInt8)(a sz:Nat):ldV b a sz<18446744073709551616:=by
 unfold ldV;split
 ·rename_i q
  have h1:=leB_lt b a sz;have h2:=(T.wordB_in q).2;exact Nat.lt_of_lt_of_le h1 (Nat.le_trans (Nat.pow_le_pow_right (by decide) (by omega:8*sz≤64)) (by decide))
 ·decide
theorem lc_in {b:Nat→UInt8}{t:Nat→Option Cp}(ht:∀g c,t g=some c→COk c)(a:Nat):VOk (lcV b t a):=by
 unfold lcV;split
 ·cases hq:t (a/16)with
  |none=>exact⟨leB_lt b a 8,cok_zero,fun q=>(by cases q),fun _=>rfl⟩
  |some c=>exact⟨by show(0:Nat)<18446744073709551616;decide,ht _ c hq,fun _=>rfl,fun q=>by cases q⟩
 ·exact⟨by decide,cok_zero,fun q=>(by cases q),fun _=>rfl⟩
theorem off_in {t:Nat→Option Cp}(ht:∀g c,t g=some c→COk c)(a e:Nat):∀g c,offT t a e g=some c→COk c:=fun g c h=>by
 unfold offT at h;split at h
 ·cases h
 ·exact ht g c h
theorem stT_in {t:Nat→Option Cp}(ht:∀g c,t g=some c→COk c)(a sz:Nat):∀g c,stT t a sz g=some c→COk c:=fun g c h=>by
 unfold stT at h;split at h
 ·exact off_in ht _ _ g c h
 ·exact ht g c h
theorem scT_in {t:Nat→Option Cp}(ht:∀g c,t g=some c→COk c)(a:Nat){v:Vl}(hv:VOk v):∀g c,scT t a v g=some c→COk c:=fun g c h=>by
 unfold scT at h;split at h
 ·split at h
  ·unfold updT at h;split at h
   ·injection h with h;subst h;exact hv.c
   ·exact off_in ht _ _ g c h
  ·exact off_in ht _ _ g c h
 ·exact ht g c h
theorem okm_load (h:Okm P n s)(hp:s.at_.pc<(codeOf P (kOf P s.at_.gate)).length)(A:Nat)(t:Tc){v:Vl}(hv:VOk v):Okm P (n+1) (Ms.put {s with tou:=s.tou++[t]} A v).next:=
 ⟨⟨h.f.g,hp,vok_upd h.f.r A hv⟩,h.st,h.dp,h.inp,Nat.le_succ_of_le h.out,by show(s.tou++[t]).length≤n+1;have:=h.tou;simp;omega,h.t⟩
theorem okm_store (h:Okm P n s)(hp:s.at_.pc<(codeOf P (kOf P s.at_.gate)).length)(t:Tc)(b':Nat→UInt8){t':Nat→Option Cp}(ht:∀g c,t' g=some c→COk c):Okm P (n+1) (Ms.next {s with tou:=s.tou++[t],b:=b',t:=t'}):=
 ⟨⟨h.f.g,hp,h.f.r⟩,h.st,h.dp,h.inp,Nat.le_succ_of_le h.out,by show(s.tou++[t]).length≤n+1;have:=h.tou;simp;omega,ht⟩
theorem okm_touch (h:Okm P n s)(hp:s.at_.pc<(codeOf P (kOf P s.at_.gate)).length){op m:Int}{A B:Nat}(hq:touM s op A B m=.ok s'):Okm P (n+1) s':=by
 have l1:∀sz,loadM s A B m sz=.ok s'→Okm P (n+1) s':=fun sz hq=>by
  unfold loadM at hq
  split at hq
  ·cases hq
  ·split at hq
   ·injection hq with hq;subst hq;exact okm_load h hp A _ (vok_nat (ld_lt _ _ _))
   ·cases hq
 have l2:∀sz,storeM s A B m sz=.ok s'→Okm P (n+1) s':=fun sz hq=>by
  unfold storeM at hq
  split at hq
  ·cases hq
  ·split at hq
   ·cases hq
   ·split at hq
    ·injection hq with hq;subst hq;exact okm_store h hp _ _ (stT_in h.t _ _)
    ·cases hq
 unfold touM at hq
 repeat' split at hq
 ·exact l1 _ hq
 ·exact l1 _ hq
 ·exact l2 _ hq
 ·exact l2 _ hq
 ·unfold ldcM at hq
  split at hq
  ·cases hq
  ·split at hq
   ·injection hq with hq;subst hq;exact okm_load h hp A _ (lc_in h.t _)
   ·cases hq
 ·unfold stcM at hq
  split at hq
  ·cases hq
  ·split at hq
   ·injection hq with hq;subst hq;exact okm_store h hp _ _ (scT_in h.t _ (h.f.r A))
   ·cases hq
theorem roots_gate (f:Fm)(L:List PRoot):∀j,(rootsJ f L j).gate=f.gate∧(rootsJ f L j).pc=f.pc
 |0=>⟨rfl,rfl⟩
 |j+1=>by
  unfold rootsJ
  split
  ·exact roots_gate f L j
  ·exact roots_gate f L j
theorem roots_vok {f:Fm}{L:List PRoot}(hf:∀j,VOk (f.regs j))(hL:∀x∈L,W64 x.b∧W64 x.e∧W64 x.c∧B8 x.p∧0≤x.s∧x.s≤15):∀j i,VOk ((rootsJ f L j).regs i)
 |0=>hf
 |j+1=>by
  unfold rootsJ
  split
  ·rename_i k hk
   obtain⟨a1,a2,a3,a4,a5⟩:=hL k (List.mem_of_getElem? hk);exact vok_upd (roots_vok hf hL j) _ ⟨by show(0:Nat)<18446744073709551616;decide,⟨a1,a2,a3,a4,a5⟩,fun _=>rfl,fun q=>by cases q⟩
  ·exact roots_vok hf hL j
theorem ent_ok (hP:POk P){g:Nat}(hg:g<P.gates.length){r:Nat→Vl}(hr:∀j,VOk (r j))(k:Nat):FOk P (entF P g r k):=by
 obtain⟨k1,k2,k3,k4⟩:=hP.kl g hg;have e:=roots_gate ⟨g,eOf P g,ovF r (fun _=>zV) k⟩ (rootsOf P (kOf P g)) (rootsOf P (kOf P g)).length;refine⟨by unfold entF;rw[e.1];exact hg,by unfold entF;rw[e.1,e.2];exact Nat.le_of_lt k4,fun j=>?_⟩;exact roots_vok (vok_ov hr (fun _=>vok_z) k) (fun x hx=>((hP.roots (kOf P g)).2 x hx).2.2) _ j
theorem okm_call (hP:POk P)(h:Okm P n s)(hp:s.at_.pc<(codeOf P (kOf P s.at_.gate)).length){g:Nat}(hg:g<P.gates.length)(hq:callM P s g=.ok s'):Okm P (n+1) s':=by
 unfold callM at hq
 split at hq
 ·split at hq
  ·cases hq
  ·rename_i hd
   injection hq with hq;subst hq
   refine⟨ent_ok hP hg h.f.r _,fun f hf=>?_,?_,h.inp,Nat.le_succ_of_le h.out,Nat.le_succ_of_le h.tou,h.t⟩
   ·rcases List.mem_append.1 hf with hf|hf
    ·exact h.st f hf
    ·rw[List.mem_singleton]at hf;subst hf;exact⟨h.f.g,hp,h.f.r⟩
   ·show((s.st++[s.next.at_]).length:Int)≤P.depth;simp only[List.length_append,List.length_cons,List.length_nil];omega
 ·cases hq
theorem okm_ret (h:Okm P n s)(hq:retM P s=.ok s'):Okm P (n+1) s':=by
 unfold retM at hq
 split at hq
 ·split at hq
  ·cases hq
  ·rename_i f hf
   injection hq with hq;subst hq
   have hf':=h.st f (List.mem_of_getLast? hf);refine⟨⟨hf'.g,hf'.pc,vok_ov h.f.r hf'.r _⟩,fun x hx=>h.st x ((List.dropLast_sublist _).subset hx),?_,h.inp,Nat.le_succ_of_le h.out,Nat.le_succ_of_le h.tou,h.t⟩;have:=h.dp;show((s.st.dropLast).length:Int)≤P.depth;rw[List.length_dropLast];omega
 ·cases hq
theorem okm_ins (hP:POk P)(h:Okm P n s)(hp:s.at_.pc<(codeOf P (kOf P s.at_.gate)).length){i:Ins}(hi:IOk P (kOf P s.at_.gate) i)(hq:insM P s i.op i.a.toNat i.b.toNat i.c.toNat i.m=.ok s'):Okm P (n+1) s':=by
 unfold insM at hq
 split at hq
 ·obtain⟨v,q,rfl⟩:=lay_ok hq;exact okm_lay h hp _ (rec_in h.f.r q)
 split at hq
 ·unfold strM at hq
  split at hq
  ·injection hq with hq;subst hq
   have:=hi.tg (by omega);exact okm_go h (by omega)
  split at hq
  ·unfold braM at hq;have:=hi.tg (by have:=hi.op;omega)
   split at hq
   ·cases hq
   ·split at hq
    ·cases hq
    ·injection hq with hq;subst hq
     split
     ·exact okm_go h (by omega)
     ·exact okm_go h hp
  split at hq
  ·injection hq with hq;subst hq
   have t:=hi.tg (by omega);have c4:=(hP.code (kOf P s.at_.gate)).1;have k4:kOf P s.at_.gate<4:=by have:=(hP.kl _ h.f.g).1;have:=hP.cl;omega
   refine okm_lay h hp _ (vok_ofC ⟨?_,?_,?_,⟨by show(0:Int)≤16;decide,by show(16:Int)<256;decide⟩,by show(0:Int)≤0;decide,by show(0:Int)≤15;decide⟩)
   all_goals
    simp only[ccap,codeBase,W64];omega
  split at hq
  ·unfold goR at hq
   split at hq
   ·rename_i k hk
    injection hq with hq;subst hq
    unfold tgtR at hk
    split at hk
    ·split at hk
     ·split at hk
      ·rename_i q3
       injection hk with hk;subst hk
       exact okm_go h (by omega)
      ·cases hk
     ·cases hk
    ·cases hk
   ·cases hq
  split at hq
  ·unfold haltM at hq
   split at hq<;>cases hq
  split at hq
  ·cases hq
  split at hq
  ·unfold inM at hq
   split at hq
   ·cases hq
   ·rename_i x L hx
    injection hq with hq;subst hq
    have h2:=h.inp;rw[hx]at h2;exact⟨⟨h.f.g,hp,vok_upd h.f.r _ (vok_ofI (h2.2 x (.head _)))⟩,h.st,h.dp,⟨by have:=h2.1;simp at this;show L.length≤_;omega,fun y hy=>h2.2 y (.tail _ hy)⟩,Nat.le_succ_of_le h.out,Nat.le_succ_of_le h.tou,h.t⟩
  split at hq
  ·unfold outM at hq
   split at hq
   ·cases hq
   ·injection hq with hq;subst hq
    exact⟨⟨h.f.g,hp,h.f.r⟩,h.st,h.dp,h.inp,by have:=h.out;show(s.out++_).length≤n+1;simp;omega,Nat.le_succ_of_le h.tou,h.t⟩
  split at hq
  ·have:=hi.cl (by assumption);exact okm_call hP h hp (by omega) hq
  ·exact okm_ret h hq
 split at hq
 ·obtain⟨v,q,rfl⟩:=lay_ok hq;unfold capV at q
  split at q
  ·rename_i c hc
   injection q with q;subst q
   exact okm_lay h hp _ (vok_ofC (der_in (h.f.r _) hc))
  ·cases q
 split at hq
 ·obtain⟨v,q,rfl⟩:=lay_ok hq;unfold nmbV at q
  split at q
  ·rename_i c hc
   injection q with q;subst q
   exact okm_lay h hp _ (vok_ofI (ask_in (h.f.r _) hc))
  ·cases q
 split at hq
 ·exact okm_touch h hp hq
 ·unfold grdR at hq
  split at hq
  ·cases hq
  ·injection hq with hq;subst hq
   exact okm_go h hp
  ·cases hq
theorem okm_step (hP:POk P)(h:Okm P n s)(hq:stepM P s=.ok s'):Okm P (n+1) s':=by
 unfold stepM at hq
 split at hq
 ·cases hq
 ·rename_i i hi
  have hp:s.at_.pc<(codeOf P (kOf P s.at_.gate)).length:=(List.getElem?_eq_some_iff.1 hi).1;exact okm_ins hP h hp ((hP.code _).2 i (List.mem_of_getElem? hi)) hq
end
theorem bx_there {w:World}{a:Nat}{f:Fm}(h:Bx w a f.row)(f':Fm):w.there a 0 f'.row.toArray.size:=fun j hj=>by
 have hj':j<114:=by rw[List.size_toArray,fmRow_len]at hj;exact hj
 have e:f.row[j]?=some (f.row[j]'(by rw[fmRow_len];exact hj')):=List.getElem?_eq_getElem _;rw[Nat.zero_add];exact⟨by rw[h.at_ j _ e];rfl,h.fr _⟩
theorem run_alloc_fm (W:World):(Instr.alloc 78 true (.tuple #[])).run Tryz.prog W=.ok (.pointer (some ⟨W.heap.size,0,none⟩)) (W.alloc (.cells Tryz.zeroCells78 78)):=by kernel_rfl
theorem wp_alloc_fm {o:Oper}{a:Act}{K:Act→World→Prop}{Q:Exit→Act→World→Prop}{w:World}(ho:o.op=.alloc 78)(h:K (a.put o.dst (.pointer (some ⟨w.heap.size,0,none⟩))) (w.alloc (.cells Tryz.zeroCells78 78))):o.wp Tryz.prog a w K Q:=by
 unfold Oper.wp execOp;simp only[ho,run_alloc_fm,Sem.run_bind,Sem.run_pure,Result.andThen_ok];exact h
theorem new_fm (X:World)(f:Fm):Bx (X.alloc (.cells Tryz.zeroCells78 78)) X.heap.size (⟨0,0,fun _=>zV⟩:Fm).row∧Bx ((X.alloc (.cells Tryz.zeroCells78 78)).setCells X.heap.size 0 f.row) X.heap.size f.row∧Bl X ((X.alloc (.cells Tryz.zeroCells78 78)).setCells X.heap.size 0 f.row):=by
 have h:=bx_zero (At.new X Tryz.zeroCells78 78);exact⟨h,(store_fm _ _ _ f h).2.1,((Bl.refl X).alloc _).sets _ (Nat.le_refl _) _ _⟩
theorem call_any (B:Nat)(W0:World)(a:Nat)(P:PImg)(s:Ms)(l:List Ob)(g:Nat)(h:MIn B W0 a P s l)(hP:POk P)(hg:g<P.gates.length)(hpc:s.at_.pc<1000000000)(hsl:s.st.length≤1000000):
 Calls Tryz.prog 105 #[.pointer (some ⟨a,0,none⟩),.int .i64 g] W0 fun x w'=>Dv B W0 a P s l (callM P s g) x w':=by
 obtain⟨b,off,gc,xa,xc,ya,yc,c2,hblt,cx,_,hTy⟩:=h.gateTy g hg;have hlt:=h.alt;have gi:(g:Int)<P.gates.length:=by omega
 have hn7:P.gates[g].args.length≤7:=(hP.gates g hg).2.2.2.2.1;obtain⟨hk1,hk2,hk3,hk4⟩:=hP.kl g hg;have hrt:∀x∈P.comps[kOf P g].roots,0≤x.r∧x.r<16:=fun x hx=>by
  have:=(hP.roots (kOf P g)).2 x (by rw[rootsOf_at P _ hk1];exact hx);omega
 have hrl:P.comps[kOf P g].roots.length≤1000000:=by
  have:=(hP.roots (kOf P g)).1;rw[rootsOf_at P _ hk1]at this;omega
 have hH:=ζ (fun X (q:Bl W0 X)=>handed_any B X a P s l P.gates[g].args xa xc (h.gr q) (hTy X q).1 hn7);replace h:=ζ h;clear hTy;unfold callM;rw[argsOf_at P g hg]
 cases hq:fitN s.at_.regs P.gates[g].args P.gates[g].args.length with
 |false=>
  rw[hq]at hH;rw[if_neg (by decide)];simp only[HdV,pan]at hH;simp only[Dv,pan];go_enter Tryz.func105,Tryz.ntmps105;go_wp2_with(refine(hH.out _ (Bl.refl _)).mono ?_;rintro x w1 ⟨rfl,e1⟩);exact⟨rfl,rfl,h.out.gr e1,Below.mono e1 h.out.le⟩
 |true=>
  rw[hq]at hH;rw[if_pos rfl];simp only[HdV]at hH;clear hq;generalize hfE:entF P g s.at_.regs P.gates[g].args.length=fE;generalize hfN:s.next.at_=fN;replace hfE:=ζ hfE;replace hfN:=ζ hfN;by_cases hd:P.depth≤(s.st.length:Int)
  ·rw[if_pos hd];simp only[Dv,pan];go_enter Tryz.func105,Tryz.ntmps105;go_wp2_with fail;refine(hH.out _ (Bl.refl _)).mono ?_;rintro x W ⟨rfl,e1⟩;have hB:=ζ (Below.mono e1 h.out.le);replace h:=ζ (h.out.gr e1);clear e1 c2 cx hblt hH hlt;go_upto_region 1 with fail
   replace hB:Hz (Below B W0 W.drew):=ζ (hB.out.trans (Below.refl _ W).drew);replace h:=ζ (h.out.gr (Below.refl _ W).drew);obtain⟨c3,ta,tk,c119⟩:=h.out.depAt;refine wp_region_held_drew (S:=(fun X=>X.cell? ⟨a,119,none⟩=some (.slice ta s.st.length tk)∧X.cell? ⟨a,3,none⟩=some (.int .i64 P.depth))) (by kernel_rfl) (⟨c119,c3⟩) (fun hHeld=>?_);refine xz 0 rfl (h:=xz 1 rfl (h:=xz 2 rfl (h:=xz 3 rfl (h:=xz 4 rfl (h:=xz 5 rfl (h:=xz 6 rfl (h:=xz 7 rfl (h:=xz 8 rfl (h:=xz 9 rfl (h:=xz 10 rfl (h:=?_)))))))))));try simp only[xap]
   refine xdn ?_ _;clear hHeld c3 c119;generalize W.drew=V at*;go_wp2_with fail;exact⟨rfl,rfl,h.out,hB.out⟩
  ·rw[if_neg hd];simp only[Dv];go_enter Tryz.func105,Tryz.ntmps105;go_wp2_with fail;refine(hH.out _ (Bl.refl _)).mono ?_;rintro x W ⟨rfl,e1⟩;have hB:=ζ (Below.mono e1 h.out.le);replace h:=ζ (h.out.gr e1);clear e1 c2 cx hblt hH hlt;go_upto_region 1 with fail
   replace hB:Hz (Below B W0 W.drew):=ζ (hB.out.trans (Below.refl _ W).drew);replace h:=ζ (h.out.gr (Below.refl _ W).drew);obtain⟨c3,ta,tk,c119⟩:=h.out.depAt;refine wp_region_held_drew (S:=(fun X=>X.cell? ⟨a,119,none⟩=some (.slice ta s.st.length tk)∧X.cell? ⟨a,3,none⟩=some (.int .i64 P.depth))) (by kernel_rfl) (⟨c119,c3⟩) (fun hHeld=>?_);refine xz 0 rfl (h:=xz 1 rfl (h:=xz 2 rfl (h:=xz 3 rfl (h:=xz 4 rfl (h:=xz 5 rfl (h:=xz 6 rfl (h:=xz 7 rfl (h:=xz 8 rfl (h:=xz 9 rfl (h:=xz 10 rfl (h:=?_)))))))))));try simp only[xap]
   refine xdn ?_ _;clear hHeld c3 c119;generalize W.drew=V at*;go_upto_region 3 with fail
   obtain⟨ra,rc,ca,cc,ga,gc,p0,p1,p2,p3,hI⟩:=h.out.progAt;have hltV:=h.out.alt;have hleV:=h.out.le;have hent:=ζ (fun X (q:Bl V X)=>entered_any P (.slice ra P.regs.length rc) (.int .i64 P.depth) g (eOf P g) (kOf P g) P.gates[g].args.length s.at_.regs ca ga cc gc (some ⟨a,14,none⟩) 15 X hg (hI X q).gates (hI X q).comps hk3 hk2 hk1 hrt hrl ((h.out.gr q).src _ (by omega)) (by omega));rw[←rootsOf_at P _ hk1]at hent;replace hI:=ζ hI;have hEe:rootsJ ⟨g,eOf P g,ovF s.at_.regs (fun _=>zV) P.gates[g].args.length⟩ (rootsOf P (kOf P g)) (rootsOf P (kOf P g)).length=entF P g s.at_.regs P.gates[g].args.length:=rfl;rw[hEe,hfE.out]at hent;refine wp_region_lit ?_;iterate 6 (refine xp fun K hK=>?_;go_simp;with_reducible refine hK _ _ ?_;clear hK K;(try simp only[xap]))
   refine xp fun K hK=>?_
   go_simp
   (refine(hent.out _ (Bl.refl _)).mono ?_;rintro r X1 ⟨rfl,g1⟩;have hB1:=ζ (hB.out.trans (Below.mono g1 h.out.le));replace h:=ζ (h.out.gr g1);obtain⟨n1,n2,n3⟩:=new_fm X1 fE;replace n1:=ζ n1;replace n2:=ζ n2;replace n3:=ζ n3;clear g1 p0 p1 p2 p3)
   with_reducible refine hK _ _ ?_
   clear hK K;try simp only[xap]
   refine xp fun K hK=>?_
   refine wp_alloc_fm rfl (hK _ _ ?_);clear hK K;try simp only[xap]
   refine wpList_store_mid rfl _ _ _ rfl _ _ (List.toArray fE.row) rfl rfl (bx_there n1.out fE) (fm_info fE) (fm_one fE) ?_;try simp only[Act.put]
   clear n1;have hM:=ζ (h.out.add (bx_ X1.heap.size fE.row) n2.out (fun k q=>by have:k=X1.heap.size:=q;omega) n3.out);replace hB:=ζ (hB1.out.trans (Below.mono n3.out h.out.le));generalize World.setCells _ _ _ _=Y at*;generalize X1.heap.size=kf at*;clear h hB1 n2 n3 hent hI;have hnx:=ζ (next_any B a P s _ Y hM.out hpc);go_wp2_with fail;refine hnx.out.mono ?_;rintro r Y2 ⟨rfl,h,hB2⟩;replace hB:=ζ (hB.out.trans hB2);clear hB2 hM hnx;have hleY:=h.le;have halt:=h.alt;replace h:=ζ h;generalize hxs:s.st.flatMap Fm.row=xs;obtain⟨ta2,tk2,c119,hO2,hap⟩:=h.out.push fN s.st fN xs rfl hfN.out hxs;generalize ta2=ta at*;generalize tk2=tk at*;replace hO2:=ζ hO2;replace hap:=ζ hap;replace hxs:=ζ hxs;have f0:Bl Y2 Y2.drew:=(Bl.refl Y2).drew;have hHA:Hz (∀X,Bl Y2 X→X.rangeAt a 5 fN.row):=ζ (fun X q=>hfN.out▸(h.out.gr q).handAt);have hS5:=hHA.out _ f0;go_upto_region 5 with fail
   refine wp_region_held_drew (S:=(fun X=>X.rangeAt a 5 fN.row)) (by kernel_rfl) (hS5) (fun hHeld=>?_);refine xz 0 rfl (h:=xz 1 rfl (h:=xz 2 rfl (h:=xz 3 rfl (h:=xz 5 rfl (h:=xz 6 rfl (h:=xz 7 rfl (h:=?_)))))));try simp only[xap]
   refine xtk 8 rfl (yieldsIf_load_mid (by rfl) _ _ rfl _ _ rfl _ _ (fun _ h=>h) Tryz.underlying78 rfl info85) ?_;try simp only[xap]
   refine wpAnyH_ready (rs:=[4,9]) (by kernel_rfl) (by simp) ?_;refine(xcn rfl (fun K hK=>?_) (xcn rfl (fun K hK=>?_) AllReadyH.nil))
   ·skip
    have c9:=(f0.cell (p:=⟨a,119,none⟩) halt).trans c119;go_simp;clear hHeld;refine hK.out _ _ (hHA.out _ f0) (fun hHeld=>?_);clear hK K c9;try simp only[xap]
    refine xrd 9 rfl (fun K hK=>?_);rw[if_pos (by rfl)];refine wp_build_frs _ rfl fN (by rfl) ?_;clear hHeld;have hX:At (Y2.drew.alloc (.cells fN.row.toArray 78)) (Y2.drew.heap.size) fN.row.toArray:=At.new Y2.drew _ _;have f1:Bl Y2 (Y2.drew.alloc (.cells fN.row.toArray 78)):=f0.alloc _;generalize hVV:Y2.drew.alloc (.cells fN.row.toArray 78)=Q1 at*;clear hVV f0;obtain⟨kX,hkX⟩:∃kX,Y2.drew.heap.size=kX:=⟨_,rfl⟩;rw[hkX]at hX ⊢;clear hkX;replace hX:=ζ hX;refine hK.out _ _ (hHA.out _ f1) (fun hHeld=>?_);clear hK K;try simp only[xap]
    refine xrd 10 rfl (fun K hK=>?_);refine wp_append_z _ _ 79 78 (.agg Tryz.zeroCells78) 114 912 rfl Tryz.underlying79 (by kernel_rfl) (by kernel_rfl) (by decide) (by decide) B (.slice ta s.st.length tk) s.st.length xs fN.row (by rfl) (hO2.out Q1 f1) kX (by rfl) hX.out (fmRow_len _) (oneCell_row _) hsl (Nat.le_trans hleY f1.size) ?_;intro g9 cap9 W9 k1 k2 k3;obtain⟨⟨u,cu⟩,fu,hR9,hM9,hBe⟩:=hap.out Q1 W9 g9 cap9 f1 k1 k2 k3;replace hM9:=ζ hM9;replace hR9:=ζ hR9;clear k1 k2 k3 hHeld;have hlt9:=World.block_lt_of_cell? W9 _ cu;refine hK.out _ _ hR9.out (fun hHeld=>?_);clear hK K;try simp only[xap]
    refine xz 11 rfl (h:=xz 12 rfl (h:=?_));try simp only[xap]
    refine xrd 13 rfl (fun K hK=>?_);go_simp;clear hHeld;refine hK.out _ _ (show World.rangeAt _ a 5 fN.row from hfN.out▸(show World.rangeAt _ a 5 s.next.at_.row from hM9.out.handAt)) (fun hHeld=>?_);clear hK K;try simp only[Act.put]
    refine xdn ?_ _;clear hHeld cu fu hR9 hlt9;replace hB:=ζ (hB.out.trans hBe);generalize World.setCell _ _ _=Y9 at*;clear h hX hap hO2 hHA;have hAq:=ζ (hM9.out.there (bx_ kf fE.row) (.head _));replace hAq:Hz (Bx Y9 kf fE.row):=ζ hAq.out;have hth:=ζ (hM9.out.there5 fE);have hN:=hM9.out.hand fE;replace hB:=ζ (hB.out.trans hN.2);replace hN:=ζ hN.1;go_upto_region 6 with fail
    refine wp_region_lit ?_;refine xp fun K hK=>?_
    go_simp;with_reducible refine hK _ _ ?_
    clear hK K;try simp only[xap]
    refine wpList_load_mid rfl _ _ rfl _ 0 rfl fE.row _ (bx_at0 hAq.out) Tryz.underlying78 rfl info85 ?_;try simp only[xap]
    iterate 2 (refine xp fun K hK=>?_;go_simp;with_reducible refine hK _ _ ?_;clear hK K;(try simp only[xap]))
    refine wpList_store_mid rfl _ _ _ rfl _ _ (List.toArray fE.row) rfl rfl hth.out (fm_info fE) (fm_one fE) ?_;try simp only[Act.put]
    generalize World.setCells _ _ _ _=Y11 at*;go_wp2_with fail
    first|go_end0|((try simp only[Exit.inBlock,Exit.then]);refine xre ?_)
    exact⟨rfl,hN.out.drop,hB.out⟩
   ·skip
    rw[if_pos (by rfl)];refine wp_build_frs _ rfl fN (by rfl) ?_;clear hHeld;have hX:At (Y2.drew.alloc (.cells fN.row.toArray 78)) (Y2.drew.heap.size) fN.row.toArray:=At.new Y2.drew _ _;have f1:Bl Y2 (Y2.drew.alloc (.cells fN.row.toArray 78)):=f0.alloc _;generalize hVV:Y2.drew.alloc (.cells fN.row.toArray 78)=Q1 at*;clear hVV f0;obtain⟨kX,hkX⟩:∃kX,Y2.drew.heap.size=kX:=⟨_,rfl⟩;rw[hkX]at hX ⊢;clear hkX;replace hX:=ζ hX;refine hK.out _ _ (hHA.out _ f1) (fun hHeld=>?_);clear hK K;try simp only[xap]
    refine xrd 4 rfl (fun K hK=>?_);have c9:=(f1.cell (p:=⟨a,119,none⟩) halt).trans c119;go_simp;clear hHeld;refine hK.out _ _ (hHA.out _ f1) (fun hHeld=>?_);clear hK K c9;try simp only[xap]
    refine xrd 10 rfl (fun K hK=>?_);refine wp_append_z _ _ 79 78 (.agg Tryz.zeroCells78) 114 912 rfl Tryz.underlying79 (by kernel_rfl) (by kernel_rfl) (by decide) (by decide) B (.slice ta s.st.length tk) s.st.length xs fN.row (by rfl) (hO2.out Q1 f1) kX (by rfl) hX.out (fmRow_len _) (oneCell_row _) hsl (Nat.le_trans hleY f1.size) ?_;intro g9 cap9 W9 k1 k2 k3;obtain⟨⟨u,cu⟩,fu,hR9,hM9,hBe⟩:=hap.out Q1 W9 g9 cap9 f1 k1 k2 k3;replace hM9:=ζ hM9;replace hR9:=ζ hR9;clear k1 k2 k3 hHeld;have hlt9:=World.block_lt_of_cell? W9 _ cu;refine hK.out _ _ hR9.out (fun hHeld=>?_);clear hK K;try simp only[xap]
    refine xz 11 rfl (h:=xz 12 rfl (h:=?_));try simp only[xap]
    refine xrd 13 rfl (fun K hK=>?_);go_simp;clear hHeld;refine hK.out _ _ (show World.rangeAt _ a 5 fN.row from hfN.out▸(show World.rangeAt _ a 5 s.next.at_.row from hM9.out.handAt)) (fun hHeld=>?_);clear hK K;try simp only[Act.put]
    refine xdn ?_ _;clear hHeld cu fu hR9 hlt9;replace hB:=ζ (hB.out.trans hBe);generalize World.setCell _ _ _=Y9 at*;clear h hX hap hO2 hHA;have hAq:=ζ (hM9.out.there (bx_ kf fE.row) (.head _));replace hAq:Hz (Bx Y9 kf fE.row):=ζ hAq.out;have hth:=ζ (hM9.out.there5 fE);have hN:=hM9.out.hand fE;replace hB:=ζ (hB.out.trans hN.2);replace hN:=ζ hN.1;go_upto_region 6 with fail
    refine wp_region_lit ?_;refine xp fun K hK=>?_
    go_simp;with_reducible refine hK _ _ ?_
    clear hK K;try simp only[xap]
    refine wpList_load_mid rfl _ _ rfl _ 0 rfl fE.row _ (bx_at0 hAq.out) Tryz.underlying78 rfl info85 ?_;try simp only[xap]
    iterate 2 (refine xp fun K hK=>?_;go_simp;with_reducible refine hK _ _ ?_;clear hK K;(try simp only[xap]))
    refine wpList_store_mid rfl _ _ _ rfl _ _ (List.toArray fE.row) rfl rfl hth.out (fm_info fE) (fm_one fE) ?_;try simp only[Act.put]
    generalize World.setCells _ _ _ _=Y11 at*;go_wp2_with fail
    first|go_end0|((try simp only[Exit.inBlock,Exit.then]);refine xre ?_)
    exact⟨rfl,hN.out.drop,hB.out⟩
end C
end Go.Proofs.YtkhbiaaangnkdaaGreatDoor
