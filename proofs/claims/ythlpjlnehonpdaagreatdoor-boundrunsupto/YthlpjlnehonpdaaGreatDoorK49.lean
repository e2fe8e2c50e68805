import Derived.Test.YthlpjlnehonpdaaGreatDoorK48
import Derived.Test.YthlpjlnehonpdaaGreatDoorK46
namespace Go.Proofs.YthlpjlnehonpdaaGreatDoor
namespace C
open Go.RowKit
open T (Sep Ob Kp Mf TgIn boxOb Fm Tc Ed Vl Cp Bx tgOb mRow updV flt ofI)
section
variable {P:PImg} {s s':Ms}
theorem step_call {i:Ins}(hi:(codeOf P (kOf P s.at_.gate))[s.at_.pc]?=some i)(h31:i.op=31)(h:stepM P s=.ok s'):
 fitN s.at_.regs (argsOf P i.m.toNat) (argsOf P i.m.toNat).length=true∧s'.at_=entF P i.m.toNat s.at_.regs (argsOf P i.m.toNat).length∧s'.st=s.st++[s.next.at_]:=by
 unfold stepM at h;rw[hi]at h;simp only at h;unfold insM at h;rw[if_neg (by omega),if_pos (by omega)]at h;unfold strM at h;rw[if_neg (by omega),if_neg (by omega),if_neg (by omega),if_neg (by omega),if_neg (by omega),if_neg (by omega),if_neg (by omega),if_neg (by omega),if_pos h31]at h;unfold callM at h
 split at h
 ·rename_i hf
  split at h
  ·cases h
  ·injection h with h
   subst h;exact⟨hf,rfl,rfl⟩
 ·cases h
theorem step_ret {i:Ins}(hi:(codeOf P (kOf P s.at_.gate))[s.at_.pc]?=some i)(h32:i.op=32)(h:stepM P s=.ok s'):
 fitN s.at_.regs (resOf P s.at_.gate) (resOf P s.at_.gate).length=true∧∃L f,s.st=L++[f]∧s'.at_=backF f s.at_.regs (resOf P s.at_.gate).length∧s'.st=L:=by
 unfold stepM at h;rw[hi]at h;simp only at h;unfold insM at h;rw[if_neg (by omega),if_pos (by omega)]at h;unfold strM at h;rw[if_neg (by omega),if_neg (by omega),if_neg (by omega),if_neg (by omega),if_neg (by omega),if_neg (by omega),if_neg (by omega),if_neg (by omega),if_neg (by omega)]at h;unfold retM at h
 split at h
 ·rename_i hf
  rcases List.eq_nil_or_concat s.st with hz|⟨L,f,hz⟩
  ·rw[hz]at h;cases h
  ·rw[List.concat_eq_append]at hz;rw[hz]at h;simp only[List.getLast?_append,List.getLast?_singleton,Option.some_or,List.dropLast_concat]at h;injection h with h
   subst h;exact⟨hf,L,f,hz,rfl,rfl⟩
 ·cases h
end
end C
namespace Bd
open Go.RowKit
open T (Ed Vl flt)
open C (Ms stepM codeOf kOf insM strM callM retM haltM inM outM braM layM goR recM twoR madeR derR askR plcR granR touM loadM storeM ldcM stcM grdR holR tgtR capV nmbV lay_err)
def EdNo (e:Ed):Prop:=e.e≠5∧e.e≠6
theorem en_flt (f:Int)(_:f≠0):EdNo (T.flt f):=⟨by show(7:Int)≠5;decide,by show(7:Int)≠6;decide⟩
theorem en_lit {a b c:Int}(h:a≠5∧a≠6):EdNo ⟨a,b,c⟩:=h
theorem no_of {e:Ed}{A B:Prop}(h:EdNo e):(e.e=5→A)∧(e.e=6→B):=⟨fun q=>absurd q h.1,fun q=>absurd q h.2⟩
section
variable {P:PImg} {s s':Ms} {e:Ed}
theorem en_two {op:Int}{v u:Vl}(h:twoR op v u=.error e):EdNo e:=by
 unfold twoR at h
 split at h
 ·injection h with h;subst h;exact en_flt _ (by first|decide|assumption)
 ·split at h
  ·injection h with h;subst h;exact en_flt _ (by first|decide|assumption)
  ·cases h
theorem en_rec {op m:Int}{B C:Nat}(h:recM s op B C m=.error e):EdNo e:=by
 unfold recM at h
 split at h
 ·cases h
 split at h
 ·cases h
 split at h
 ·split at h
  ·injection h with h;subst h;exact en_flt _ (by first|decide|assumption)
  ·cases h
 ·exact en_two h
theorem en_made {op m:Int}{v u:Vl}(h:madeR op m v u=.error e):EdNo e:=by
 unfold madeR at h
 repeat' split at h
 all_goals first
  |(injection h with h;subst h;exact en_flt _ (by first|decide|assumption))
  |cases h
theorem en_der {op m:Int}{v u:Vl}(h:derR op m v u=.error e):EdNo e:=by
 unfold derR at h
 cases hq:madeR op m v u with
 |error x=>rw[hq]at h;injection h with h;subst h;exact en_made hq
 |ok r=>
  rw[hq]at h;simp only at h
  split at h
  ·cases h
  ·injection h with h;subst h;exact en_flt _ (by first|decide|assumption)
theorem en_ask {op:Int}{v u:Vl}(h:askR op v u=.error e):EdNo e:=by
 unfold askR at h
 split at h
 ·cases h
 split at h
 ·cases h
 split at h
 ·cases h
 ·injection h with h;subst h;exact en_flt _ (by first|decide|assumption)
theorem en_plc {m sz p:Int}{v:Vl}(h:plcR m sz p v=.error e):EdNo e:=by
 unfold plcR at h
 split at h
 ·split at h
  ·cases h
  ·injection h with h;subst h;exact en_flt _ (by first|decide|assumption)
 ·injection h with h;subst h;exact en_flt _ (by first|decide|assumption)
theorem en_gran {m p:Int}{v:Vl}(h:granR m p v=.error e):EdNo e:=by
 unfold granR at h
 cases hq:plcR m 16 p v with
 |error x=>rw[hq]at h;injection h with h;subst h;exact en_plc hq
 |ok n=>
  rw[hq]at h;simp only at h
  split at h
  ·cases h
  ·injection h with h;subst h;exact en_flt _ (by first|decide|assumption)
theorem en_load {A B sz:Nat}{m:Int}(h:loadM s A B m sz=.error e):EdNo e:=by
 unfold loadM at h
 split at h
 ·rename_i x hq;injection h with h;subst h;exact en_plc hq
 ·split at h
  ·cases h
  ·injection h with h;subst h;exact en_flt _ (by first|decide|assumption)
theorem en_store {A B sz:Nat}{m:Int}(h:storeM s A B m sz=.error e):EdNo e:=by
 unfold storeM at h
 split at h
 ·injection h with h;subst h;exact en_flt _ (by first|decide|assumption)
 ·split at h
  ·rename_i x hq;injection h with h;subst h;exact en_plc hq
  ·split at h
   ·cases h
   ·injection h with h;subst h;exact en_flt _ (by first|decide|assumption)
theorem en_touch {op m:Int}{A B:Nat}(h:touM s op A B m=.error e):EdNo e:=by
 unfold touM at h
 split at h
 ·exact en_load h
 split at h
 ·exact en_load h
 split at h
 ·exact en_store h
 split at h
 ·exact en_store h
 split at h
 ·unfold ldcM at h
  split at h
  ·rename_i x hq;injection h with h;subst h;exact en_gran hq
  ·split at h
   ·cases h
   ·injection h with h;subst h;exact en_flt _ (by first|decide|assumption)
 ·unfold stcM at h
  split at h
  ·rename_i x hq;injection h with h;subst h;exact en_gran hq
  ·split at h
   ·cases h
   ·injection h with h;subst h;exact en_flt _ (by first|decide|assumption)
theorem en_hol {op m:Int}{v:Vl}(h:holR op m v=.error e):EdNo e:=by
 unfold holR at h
 split at h
 ·split at h
  ·injection h with h;subst h;exact en_flt _ (by first|decide|assumption)
  ·cases h
 split at h
 ·split at h
  ·injection h with h;subst h;exact en_flt _ (by first|decide|assumption)
  ·cases h
 split at h
 ·cases h
 split at h
 ·split at h
  ·cases h
  ·split at h
   ·cases h
   ·cases h
 ·injection h with h;subst h;exact en_flt _ (by first|decide|assumption)
theorem en_tgt {k:Nat}{v:Vl}(h:tgtR P k v=.error e):EdNo e:=by
 unfold tgtR at h
 split at h
 ·split at h
  ·split at h
   ·cases h
   ·injection h with h;subst h;exact en_flt _ (by first|decide|assumption)
  ·injection h with h;subst h;exact en_flt _ (by first|decide|assumption)
 ·injection h with h;subst h;exact en_flt _ (by first|decide|assumption)
theorem step_no (h:stepM P s=.error e):(e.e=5→∃i,(codeOf P (kOf P s.at_.gate))[s.at_.pc]?=some i∧i.op=31∧P.depth≤s.st.length)∧(e.e=6→∃i,(codeOf P (kOf P s.at_.gate))[s.at_.pc]?=some i∧i.op=29∧s.inp=[]):=by
 unfold stepM at h
 split at h
 ·injection h with h;subst h;exact no_of (en_flt _ (by first|decide|assumption))
 ·rename_i i hi
  unfold insM at h
  split at h
  ·exact no_of (en_rec (lay_err h))
  split at h
  ·unfold strM at h
   split at h
   ·cases h
   split at h
   ·unfold braM at h
    split at h
    ·injection h with h;subst h;exact no_of (en_flt _ (by first|decide|assumption))
    ·split at h
     ·injection h with h;subst h;exact no_of (en_flt _ (by first|decide|assumption))
     ·cases h
   split at h
   ·cases h
   split at h
   ·unfold goR at h
    split at h
    ·cases h
    ·rename_i x hq;injection h with h;subst h;exact no_of (en_tgt hq)
   split at h
   ·unfold haltM at h
    split at h
    ·injection h with h;subst h;exact no_of (en_flt _ (by first|decide|assumption))
    ·injection h with h;subst h;exact no_of (en_lit (by decide))
   split at h
   ·injection h with h;subst h;exact no_of (en_lit (by decide))
   split at h
   ·rename_i q29
    unfold inM at h
    split at h
    ·rename_i hI;injection h with h;subst h;exact⟨fun q=>absurd q (by decide),fun _=>⟨i,hi,q29,hI⟩⟩
    ·cases h
   split at h
   ·unfold outM at h
    split at h
    ·injection h with h;subst h;exact no_of (en_flt _ (by first|decide|assumption))
    ·cases h
   split at h
   ·rename_i q31
    unfold callM at h
    split at h
    ·split at h
     ·rename_i hd;injection h with h;subst h;exact⟨fun _=>⟨i,hi,q31,hd⟩,fun q=>absurd q (by decide)⟩
     ·cases h
    ·injection h with h;subst h;exact no_of (en_flt _ (by first|decide|assumption))
   ·unfold retM at h
    split at h
    ·split at h
     ·injection h with h;subst h;exact no_of (en_lit (by decide))
     ·cases h
    ·injection h with h;subst h;exact no_of (en_flt _ (by first|decide|assumption))
  split at h
  ·have h1:=lay_err h;unfold capV at h1
   split at h1
   ·cases h1
   ·rename_i x hq;injection h1 with h1;subst h1;exact no_of (en_der hq)
  split at h
  ·have h1:=lay_err h;unfold nmbV at h1
   split at h1
   ·cases h1
   ·rename_i x hq;injection h1 with h1;subst h1;exact no_of (en_ask hq)
  split at h
  ·exact no_of (en_touch h)
  ·unfold grdR at h
   split at h
   ·rename_i x hq;injection h with h;subst h;exact no_of (en_hol hq)
   ·cases h
   ·injection h with h;subst h;exact no_of (en_lit (by decide))
end
open F (folB Rch rchB_iff)
open T (Ed Fm)
open C (Ms POk Okm stepM stepsM codeOf kOf eOf entF insM strM callM retM haltM inM outM braM layM goR recM derR askR touM grdR step_call step_ret step_flow)
theorem step_inp {P:PImg}{s s':Ms}{i:Ins}(hi:(codeOf P (kOf P s.at_.gate))[s.at_.pc]?=some i)(h:stepM P s=.ok s'):(i.op≠29→s'.inp=s.inp)∧(i.op=29→s'.inp.length+1=s.inp.length):=by
 unfold stepM at h;rw[hi]at h;simp only at h;unfold insM at h
 split at h
 ·obtain⟨v,_,rfl⟩:=C.lay_ok h;exact⟨fun _=>rfl,fun q=>by omega⟩
 split at h
 ·unfold strM at h
  split at h
  ·injection h with h;subst h;exact⟨fun _=>rfl,fun q=>by omega⟩
  split at h
  ·unfold braM at h
   split at h
   ·cases h
   ·split at h
    ·cases h
    ·injection h with h;subst h;split<;>exact⟨fun _=>rfl,fun q=>by omega⟩
  split at h
  ·injection h with h;subst h;exact⟨fun _=>rfl,fun q=>by omega⟩
  split at h
  ·unfold goR at h
   split at h
   ·injection h with h;subst h;exact⟨fun _=>rfl,fun q=>by omega⟩
   ·cases h
  split at h
  ·unfold haltM at h
   split at h<;>cases h
  split at h
  ·cases h
  split at h
  ·rename_i q29
   refine⟨fun q=>absurd q29 q,fun _=>?_⟩;unfold inM at h
   split at h
   ·cases h
   ·rename_i hI
    injection h with h;subst h
    show _+1=s.inp.length;rw[hI];rfl
  split at h
  ·unfold outM at h
   split at h
   ·cases h
   ·injection h with h;subst h;exact⟨fun _=>rfl,fun q=>by omega⟩
  split at h
  ·unfold callM at h
   split at h
   ·split at h
    ·cases h
    ·injection h with h;subst h;exact⟨fun _=>rfl,fun q=>by omega⟩
   ·cases h
  ·unfold retM at h
   split at h
   ·split at h
    ·cases h
    ·injection h with h;subst h;exact⟨fun _=>rfl,fun q=>by omega⟩
   ·cases h
 split at h
 ·obtain⟨v,_,rfl⟩:=C.lay_ok h;exact⟨fun _=>rfl,fun q=>by omega⟩
 split at h
 ·obtain⟨v,_,rfl⟩:=C.lay_ok h;exact⟨fun _=>rfl,fun q=>by omega⟩
 split at h
 ·refine⟨fun _=>?_,fun q=>by omega⟩;have l1:∀sz,C.loadM s i.a.toNat i.b.toNat i.m sz=.ok s'→s'.inp=s.inp:=fun sz h=>by
   unfold C.loadM at h
   split at h
   ·cases h
   ·split at h
    ·injection h with h;subst h;rfl
    ·cases h
  have l2:∀sz,C.storeM s i.a.toNat i.b.toNat i.m sz=.ok s'→s'.inp=s.inp:=fun sz h=>by
   unfold C.storeM at h
   split at h
   ·cases h
   ·split at h
    ·cases h
    ·split at h
     ·injection h with h;subst h;rfl
     ·cases h
  unfold touM at h
  split at h
  ·exact l1 _ h
  split at h
  ·exact l1 _ h
  split at h
  ·exact l2 _ h
  split at h
  ·exact l2 _ h
  split at h
  ·unfold C.ldcM at h
   split at h
   ·cases h
   ·split at h
    ·injection h with h;subst h;rfl
    ·cases h
  ·unfold C.stcM at h
   split at h
   ·cases h
   ·split at h
    ·injection h with h;subst h;rfl
    ·cases h
 ·unfold grdR at h
  split at h
  ·cases h
  ·injection h with h;subst h;exact⟨fun _=>rfl,fun q=>by omega⟩
  ·cases h
theorem jc_lt {P:PImg}{s s':Ms}{i:Ins}(hi:(codeOf P (kOf P s.at_.gate))[s.at_.pc]?=some i)(ho:i.op=26)(h:stepM P s=.ok s'):s'.at_.pc<(codeOf P (kOf P s.at_.gate)).length:=by
 unfold stepM at h;rw[hi]at h;simp only at h;unfold insM at h;rw[if_neg (by omega),if_pos (by omega)]at h;unfold strM at h;rw[if_neg (by omega),if_neg (by omega),if_neg (by omega),if_pos ho]at h;unfold goR at h
 split at h
 ·rename_i k hk
  injection h with h;subst h
  exact C.tgt_lt hk
 ·cases h
theorem ends_no {P:PImg}{s s':Ms}{i:Ins}(hi:(codeOf P (kOf P s.at_.gate))[s.at_.pc]?=some i)(h:stepM P s=.ok s'):i.op≠27∧i.op≠28:=by
 unfold stepM at h;rw[hi]at h;simp only at h;refine⟨fun ho=>?_,fun ho=>?_⟩
 ·unfold insM at h;rw[if_neg (by omega),if_pos (by omega)]at h;unfold strM at h;rw[if_neg (by omega),if_neg (by omega),if_neg (by omega),if_neg (by omega),if_pos ho]at h;unfold haltM at h
  split at h<;>cases h
 ·unfold insM at h;rw[if_neg (by omega),if_pos (by omega)]at h;unfold strM at h;rw[if_neg (by omega),if_neg (by omega),if_neg (by omega),if_neg (by omega),if_neg (by omega),if_pos ho]at h
  cases h
theorem step_gate {P:PImg}{s s':Ms}{i:Ins}(hi:(codeOf P (kOf P s.at_.gate))[s.at_.pc]?=some i)(hc:i.op≠31)(hr:i.op≠32)(h:stepM P s=.ok s'):s'.at_.gate=s.at_.gate∧s'.st=s.st:=by
 have:=C.step_alone hi hc (fun _ _=>hr) h;exact⟨this.gate,this.st⟩
theorem code_same {m P:PImg}(hg:P.gates=m.gates)(hc:P.comps=m.comps)(hok:BOk m){g:Nat}(h:g<m.gates.length):gcode m g=codeOf P (kOf P g)∧(gent m g).toNat=eOf P g:=by
 obtain⟨k,hk,e1,_,_⟩:=hok.gates g h;have h2:g<P.gates.length:=by rw[hg];exact h
 have ek:kOf P g=k:=by
  rw[C.kOf_at P g h2];simp only[hg,e1];omega
 rw[gcode_of h hk e1,gent_of h,ek,C.codeOf_at P k (by rw[hc];exact hk),C.eOf_at P g h2];simp[hg,hc]
inductive Stk (m:PImg) (c0:Int):List Fm→Int→Int→Prop
 |nil:Stk m c0 [] 0 0
 |snoc {L:List Fm} {A B a b:Int} {f:Fm} {v:Cst}:Stk m c0 L A B→FrB m f.gate f.pc v a b→(L.length:Int)+v.c≤c0→Stk m c0 (L++[f]) (A+a) (B+b)
structure Run (m:PImg)(c0:Int)(s:Ms)(Φ Ψ:Int):Prop where
 on:∃A B a b v,Stk m c0 s.st A B∧FrB m s.at_.gate s.at_.pc v a b∧(s.st.length:Int)+v.c≤c0∧Φ=A+a∧Ψ=B+b
theorem Stk.nn {m:PImg}{c0:Int}(hok:BOk m){L:List Fm}{A B:Int}(h:Stk m c0 L A B):0≤A∧0≤B:=by
 induction h with
 |nil=>exact⟨Int.le_refl _,Int.le_refl _⟩
 |snoc _ hf _ ih=>have:=hf.ge hok;omega
theorem Stk.pop {m:PImg}{c0:Int}{L:List Fm}{A B:Int}{f:Fm}(h:Stk m c0 (L++[f]) A B):∃A' B' a b v,Stk m c0 L A' B'∧FrB m f.gate f.pc v a b∧(L.length:Int)+v.c≤c0∧A=A'+a∧B=B'+b:=by
 generalize hL:L++[f]=K at h
 cases h with
 |nil=>exact absurd (congrArg List.length hL) (by simp)
 |snoc h1 h2 h3=>
  have e:=List.append_inj' hL rfl;obtain⟨e1,e2⟩:=e;injection e2 with e2
  subst e1;subst e2;exact⟨_,_,_,_,_,h1,h2,h3,rfl,rfl⟩
section
variable {m P:PImg} {c0:Int} {s s':Ms} {Φ Ψ:Int}
theorem Run.ge (hok:BOk m)(h:Run m c0 s Φ Ψ):1≤Φ∧0≤Ψ:=by
 obtain⟨A,B,a,b,v,h1,h2,h3,h4,h5⟩:=h.on;have:=h1.nn hok;have:=h2.ge hok;omega
theorem Run.deep (hok:BOk m)(h:Run m c0 s Φ Ψ):(s.st.length:Int)≤c0:=by
 obtain⟨A,B,a,b,v,h1,h2,h3,h4,h5⟩:=h.on;have:=(kC_fair hok _ _ h2.k).c0;omega
theorem stF_ge (hok:BOk m)(g pc:Nat):1≤stF (gcode m g) (sF (kC m)) pc∧0≤inF (gcode m g) (iF (kC m)) pc:=by
 have hF:=kC_fair hok;have h3:=ca_in (L:=gcode m g) hF pc;have h4:=in_in (L:=gcode m g) hF pc;have e:stF (gcode m g) (sF (kC m)) pc=1+caF (gcode m g) (sF (kC m)) pc:=by unfold stF;exact wrapU _ (by omega)
 omega
theorem run_step (hP:POk P)(hok:BOk m)(hg:P.gates=m.gates)(hc:P.comps=m.comps)(h:Run m c0 s Φ Ψ)(hs:stepM P s=.ok s'):
 ∃Φ' Ψ',Run m c0 s' Φ' Ψ'∧Φ'+1≤Φ∧Ψ'+((s.inp.length:Int) - s'.inp.length)≤Ψ∧s'.inp.length≤s.inp.length∧(∀i,(codeOf P (kOf P s.at_.gate))[s.at_.pc]?=some i→i.op=29→s'.inp.length+1=s.inp.length)∧((∀i,(codeOf P (kOf P s.at_.gate))[s.at_.pc]?=some i→i.op≠29)→s'.inp.length=s.inp.length):=by
 obtain⟨A,B,a,b,v,h1,h2,h3,h4,h5⟩:=h.on;have hgl:=kC_lt h2.k;obtain⟨ec,ee⟩:=code_same hg hc hok hgl
 cases hi:(codeOf P (kOf P s.at_.gate))[s.at_.pc]? with
 |none=>
  unfold stepM at hs;rw[hi]at hs
  cases hs
 |some i=>
  have hinp:=step_inp hi hs;have hp:s.at_.pc<(gcode m s.at_.gate).length:=by rw[ec];exact(List.getElem?_eq_some_iff.1 hi).1
  have hi2:(gcode m s.at_.gate)[s.at_.pc]?=some i:=by rw[ec];exact hi
  have hsf:=stF_ge hok s.at_.gate s.at_.pc;have hno:=ends_no hi hs;have inq:(∀j,some i=some j→j.op=29→s'.inp.length+1=s.inp.length)∧((∀j,some i=some j→j.op≠29)→s'.inp.length=s.inp.length):=by
   refine⟨fun j hj q=>?_,fun q=>?_⟩
   ·injection hj with hj;subst hj;exact hinp.2 q
   ·rw[hinp.1 (q i rfl)]
  have inle:s'.inp.length≤s.inp.length:=by
   by_cases q:i.op=29
   ·have:=hinp.2 q;omega
   ·rw[hinp.1 q];exact Nat.le_refl _
  by_cases h31:i.op=31
  ·obtain⟨_,e1,e2⟩:=step_call hi h31 hs;obtain⟨u,u1,u2,u3,u4,u5⟩:=h2.call hok hi2 h31;have hx:=kC_lt u1;obtain⟨ec2,ee2⟩:=code_same hg hc hok hx;have hq:s.at_.pc+1∈nxN (gcode m s.at_.gate) s.at_.pc:=by
    refine(nxN_mem hp _).2 ?_;rcases C.at_next hi2 (.inl (by rw[h31];decide))with⟨q1,q2,q3⟩|q
    ·refine .inr ⟨?_,q1⟩;unfold ovB;rw[hi2,decide_eq_true q2];simp[h31]
    ·exact .inl q
   obtain⟨a',b',f1,f2,f3⟩:=h2.go hok hq;have hat:s'.at_.gate=i.m.toNat∧s'.at_.pc=eOf P i.m.toNat:=by
    rw[e1];exact C.roots_gate _ _ _
   have hz:s.next.at_.gate=s.at_.gate∧s.next.at_.pc=s.at_.pc+1:=⟨rfl,rfl⟩;refine⟨A+a'+u.s,B+b'+u.i,⟨A+a',B+b',u.s,u.i,u,?_,?_,?_,rfl,rfl⟩,by omega,?_,inle,inq.1,inq.2⟩
   ·rw[e2];refine .snoc (v:=v) h1 ?_ h3;rw[hz.1,hz.2];exact f1
   ·rw[hat.1,hat.2,←ee2];exact u3
   ·rw[e2,List.length_append];simp only[List.length_singleton];omega
   ·have:=hinp.1 (by omega);rw[this];omega
  by_cases h32:i.op=32
  ·obtain⟨_,L,f,e1,e2,e3⟩:=C.step_ret hi h32 hs;rw[e1]at h1 h3;obtain⟨A',B',a',b',v',p1,p2,p3,p4,p5⟩:=h1.pop;have hge:=h2.ge hok;refine⟨A'+a',B'+b',⟨A',B',a',b',v',by rw[e3];exact p1,?_,by rw[e3];exact p3,rfl,rfl⟩,by omega,?_,inle,inq.1,inq.2⟩
   ·rw[e2];exact p2
   ·have:=hinp.1 (by omega);rw[this];omega
  obtain⟨g1,g2⟩:=step_gate hi h31 h32 hs;have hq:s'.at_.pc∈nxN (gcode m s.at_.gate) s.at_.pc:=by
   refine(nxN_mem hp _).2 ?_;have hfl:=step_flow hP hi h31 h32 hs;rw[←ec]at hfl;rcases hfl with⟨q1,q2,q3⟩|q
   ·refine .inr ⟨?_,q1⟩;have h26:i.op≠26:=fun q=>by
     have:=jc_lt hi q hs;rw[←ec]at this;omega
    unfold ovB;rw[hi2,decide_eq_true q2];simp[q3,h26,hno.1,hno.2,h32]
   ·exact .inl q
  obtain⟨a',b',f1,f2,f3⟩:=h2.go hok hq;refine⟨A+a',B+b',⟨A,B,a',b',v,by rw[g2];exact h1,by rw[g1];exact f1,by rw[g2];exact h3,rfl,rfl⟩,by omega,?_,inle,inq.1,inq.2⟩;by_cases q29:i.op=29
  ·have:=hinp.2 q29;have:inF (gcode m s.at_.gate) (iF (kC m)) s.at_.pc=1:=by
    unfold inF;rw[hi2];dsimp only;rw[if_pos q29]
   omega
  ·rw[hinp.1 q29];omega
theorem run_err (hok:BOk m)(hg:P.gates=m.gates)(hc:P.comps=m.comps){e:Ed}(h:Run m c0 s Φ Ψ)(hin:Ψ≤s.inp.length)(hs:stepM P s=.error e):e.e≠6∧(e.e=5→P.depth<c0):=by
 obtain⟨A,B,a,b,v,h1,h2,h3,h4,h5⟩:=h.on;have hgl:=kC_lt h2.k;obtain⟨ec,ee⟩:=code_same hg hc hok hgl;obtain⟨k5,k6⟩:=step_no hs;refine⟨fun q=>?_,fun q=>?_⟩
 ·obtain⟨i,hi,q29,hI⟩:=k6 q;have hi2:(gcode m s.at_.gate)[s.at_.pc]?=some i:=by rw[ec];exact hi
  have hb:1≤b:=by
   have h6:=sumS_ge (fun pc=>in_in (L:=gcode m s.at_.gate) (kC_fair hok) pc) (code_le hok hgl) h2.inp;have:inF (gcode m s.at_.gate) (iF (kC m)) s.at_.pc=1:=by
    unfold inF;rw[hi2];dsimp only;rw[if_pos q29]
   omega
  have:=h1.nn hok;rw[hI]at hin;simp at hin;omega
 ·obtain⟨i,hi,q31,hd⟩:=k5 q;have hi2:(gcode m s.at_.gate)[s.at_.pc]?=some i:=by rw[ec];exact hi
  obtain⟨u,u1,u2,_⟩:=h2.call hok hi2 q31;have:=(kC_fair hok _ _ u1).c0;omega
end
/-! Where only the calls in calls are known. -/
section
variable {m P:PImg} {c0:Int} {s s':Ms}
end
open C (Ms POk Okm stepM stepsM codeOf kOf eOf)
def inB (P:PImg)(s:Ms):Bool:=match (codeOf P (kOf P s.at_.gate))[s.at_.pc]? with|none=>false|some k=>k.op==29
def tkC (P:PImg)(s:Ms):Nat:=if inB P s=true∧(stepsM P 1 s).over.e≠6 then 1 else 0
def tkM (P:PImg):Nat→Ms→Nat×Nat×Ms
 |0,s=>(0,0,s)
 |k+1,s=>if(stepsM P 1 s).over.e≠0 then(tkC P s,(stepsM P 1 s).st.length,stepsM P 1 s)else(tkC P s+(tkM P k (stepsM P 1 s)).1,max (stepsM P 1 s).st.length (tkM P k (stepsM P 1 s)).2.1,(tkM P k (stepsM P 1 s)).2.2)
theorem one_ok {P:PImg}{s s':Ms}(h0:s.over.e=0)(h:stepM P s=.ok s'):stepsM P 1 s=s':=C.stepsM_ok h0 h
theorem one_err {P:PImg}{s:Ms}{e:Ed}(h0:s.over.e=0)(h:stepM P s=.error e):stepsM P 1 s=s.ended e:=C.stepsM_err h0 h
theorem tk_end (P:PImg):∀(k:Nat) (s:Ms),s.over.e=0→(tkM P k s).2.2=stepsM P k s
 |0,s,_=>rfl
 |k+1,s,h0=>by
  unfold tkM
  split
  ·rename_i q
   have:=C.stepsM_over P k 1 s q;rw[Nat.add_comm]at this;rw[this]
  ·rename_i q
   rw[tk_end P k _ (by simpa using q)]
   cases hs:stepM P s with
   |ok s'=>rw[one_ok h0 hs,C.stepsM_ok h0 hs]
   |error e=>
    rw[one_err h0 hs]at q;exact absurd (C.step_err hs) q
section
variable {m P:PImg} {c0:Int}
theorem tk_run (hP:POk P)(hok:BOk m)(hg:P.gates=m.gates)(hc:P.comps=m.comps):∀(k:Nat) (s:Ms) (Φ Ψ:Int),s.over.e=0→Run m c0 s Φ Ψ→Ψ≤s.inp.length→
 (((tkM P k s).1:Nat):Int)≤Ψ∧(((tkM P k s).2.1:Nat):Int)≤max 0 c0∧(tkM P k s).2.2.over.e≠6∧((tkM P k s).2.2.over.e=5→P.depth<c0)∧(Φ≤k→(tkM P k s).2.2.over.e≠0)
 |0,s,Φ,Ψ,h0,h,hin=>by
  have:=h.ge hok;refine⟨by show(0:Int)≤Ψ;omega,by show(0:Int)≤_;omega,by show s.over.e≠6;omega,fun q=>?_,fun q=>by omega⟩;have:s.over.e=5:=q;omega
 |k+1,s,Φ,Ψ,h0,h,hin=>by
  have hge:=h.ge hok;have hdp:=h.deep hok
  cases hs:stepM P s with
  |error e=>
   obtain⟨r1,r2⟩:=run_err hok hg hc h hin hs;have e1:=one_err h0 hs;have hne:=C.step_err hs;have e2:tkM P (k+1) s=(tkC P s,(stepsM P 1 s).st.length,stepsM P 1 s):=by unfold tkM;rw[if_pos (by rw[e1];exact hne)]
   rw[e2,e1];refine⟨?_,?_,r1,r2,fun _=>hne⟩
   ·show((tkC P s:Nat):Int)≤Ψ;unfold tkC
    split
    ·rename_i q
     have q1:=q.1;obtain⟨A,B,a,b,v,h1,h2,h3,h4,h5⟩:=h.on;obtain⟨ec,_⟩:=code_same hg hc hok (kC_lt h2.k);unfold inB at q1;rw[←ec]at q1
     cases hi:(gcode m s.at_.gate)[s.at_.pc]? with
     |none=>rw[hi]at q1;cases q1
     |some i=>
      rw[hi]at q1;have h29:i.op=29:=by simpa using q1
      have h6:=sumS_ge (fun pc=>in_in (L:=gcode m s.at_.gate) (kC_fair hok) pc) (code_le hok (kC_lt h2.k)) h2.inp;have:inF (gcode m s.at_.gate) (iF (kC m)) s.at_.pc=1:=by
       unfold inF;rw[hi];dsimp only;rw[if_pos h29]
      have:=h1.nn hok;omega
    ·omega
   ·show(((s.ended e).st.length:Nat):Int)≤_;have:(s.ended e).st=s.st:=rfl;rw[this];omega
  |ok s'=>
   obtain⟨Φ',Ψ',r1,r2,r3,r4,r5,r6⟩:=run_step hP hok hg hc h hs;have e1:=one_ok h0 hs;have h0':s'.over.e=0:=by rw[C.step_over hs];exact h0
   obtain⟨t1,t2,t3,t4,t5⟩:=tk_run hP hok hg hc k s' Φ' Ψ' h0' r1 (by omega);have hdp':=r1.deep hok;have e2:tkM P (k+1) s=(tkC P s+(tkM P k s').1,max s'.st.length (tkM P k s').2.1,(tkM P k s').2.2):=by
    conv=>lhs;unfold tkM
    rw[e1,if_neg (by omega)]
   rw[e2];refine⟨?_,?_,t3,t4,fun q=>t5 (by omega)⟩
   ·show((tkC P s+(tkM P k s').1:Nat):Int)≤Ψ;have htk:((tkC P s:Nat):Int)≤(s.inp.length:Int) - s'.inp.length:=by
     unfold tkC
     split
     ·rename_i q
      have q1:=q.1;unfold inB at q1
      cases hi:(codeOf P (kOf P s.at_.gate))[s.at_.pc]? with
      |none=>rw[hi]at q1;cases q1
      |some i=>
       rw[hi]at q1;have:=r5 i hi (by simpa using q1);omega
     ·omega
    omega
   ·show((max s'.st.length (tkM P k s').2.1:Nat):Int)≤_;omega
end
end Bd
set_option maxRecDepth 100000
set_option maxHeartbeats 40000000
namespace C
open Go.RowKit
open T (Sep Ob Kp Mf TgIn boxOb Fm Tc Ed Vl Cp Bx tgOb mRow updV flt)
theorem pick18_any (c:Int)(n:Nat)(hn:0<n)(hc: -9223372036854775808≤c∧c<9223372036854775808):∃g:Nat,g<n∧∀W,Calls Tryz.prog 7 #[.int .i64 c,.int .i64 n] W fun x w'=>x=.returned (.int .i64 g)∧w'=W:=by
 have hz:((n:Int)==0)=false:=beq_false_of_ne (by omega);by_cases h:c<0
 ·obtain⟨d,hd⟩:∃d:Nat, -(c+1)=d:=⟨(-(c+1)).toNat,by omega⟩;have w1:wrap64 (c+1)=c+1:=by unfold wrap64;omega
  have w2:wrap64 (-(c+1))=(d:Int):=by unfold wrap64;omega
  have w3:IntKind.i64.wrap (-(c+1))=(d:Int):=by rw[IntKind.wrap_i64];omega
  have hr:Int.tmod (d:Int) (n:Int)=((d%n:Nat):Int):=rfl;refine⟨d%n,Nat.mod_lt _ hn,fun W=>?_⟩;generalize d%n=g at*;replace hd:=ζ hd;go_enter Tryz.func7,Tryz.ntmps7;go_wp2_with fail;go_ret;exact⟨rfl,rfl⟩
 ·obtain⟨d,hd⟩:∃d:Nat,c=d:=⟨c.toNat,by omega⟩;subst hd;have hr:Int.tmod (d:Int) (n:Int)=((d%n:Nat):Int):=rfl;refine⟨d%n,Nat.mod_lt _ hn,fun W=>?_⟩;generalize d%n=g at*;go_enter Tryz.func7,Tryz.ntmps7;go_wp2_with fail;go_ret;exact⟨rfl,rfl⟩
theorem num_own {w:World}{lo n lc:Nat}{la:Option Addr}{L:List Nat}(hl:L.length=n)(h:w.ownsRow lo 25 1 (.slice la n lc) n (L.map uN)):NumIn w la L:=by
 obtain⟨va,c,e,h2⟩:=own_numn hl h;injection e with e1;subst e1;exact h2
theorem beg18_shut (m:PImg)(g:Nat)(A I:List Nat)(ra ca ga aa ia:Option Addr)(rc cc gc ac ic:Nat)(w:World)(ht:TabIn w)(hm:ImgIn w.heap.size w ra ca ga m)(hr:m.Rng)(hA:NumIn w aa A)(hrt:m.right=0)(hgl:g<m.gates.length)(hent:isEnt m g=false):Calls Tryz.prog 9 #[.agg #[.slice ra m.regs.length rc,.slice ca m.comps.length cc,.slice ga m.gates.length gc,.int .i64 m.depth],.int .i64 g,.slice aa A.length ac,.slice ia I.length ic] w fun x w'=>x=.returned (.pointer none)∧Bl w w':=by
 have hRt:=ζ (fun X (q:Gr w X)=>imgRight_any m ra ca ga rc cc gc X (ht.gr q) ((hm.below q.below).mono q.below.size) hr);have hth:=ζ (th_of m hrt hr);have h7:m.gates[g].args.length≤7:=(hth.out.gates _ (List.getElem_mem hgl)).2.2.1;have hln:=entN_len A m.gates[g].args.length;have hNw:=ζ (fun X (q:Bl w X) aa ac (hn:NumIn X aa (entN A m.gates[g].args.length))=>new_no70 m g (entN A m.gates[g].args.length) I ra ca ga aa ia rc cc gc ac ic X (TabIn.bl ht q) ((hm.below q).mono q.size) hr hrt hent);rw[hln]at hNw;rw[hrt]at hRt;obtain⟨gb,goff,xa,xc,ya,yc,rfl,_,hgb0,_,_,e2,_,_,_⟩:=hm.gates g hgl;replace e2:w.cell? ⟨gb,goff+g*4+2,none⟩=some (.slice xa m.gates[g].args.length xc):=e2;have hgi:(g:Int)<(m.gates.length:Int):=Int.ofNat_lt.2 hgl;generalize m.gates[g].args.length=n at*;have hA0:=ζ hA;replace hln:=ζ hln;clear hm hr ht hA hrt hth;go_enter Tryz.func9,Tryz.ntmps9;go_wp2_with fail;refine(hRt.out _ ((Gr.refl w).alloc _)).mono ?_
 rintro x W ⟨rfl,e1⟩;have hQ:=Bl.at_ (Bl.gr e1) (At.new w #[.slice ra m.regs.length rc,.slice ca m.comps.length cc,.slice (some ⟨gb,goff,none⟩) m.gates.length gc,.int .i64 m.depth] 40);have G:=ζ (((Gr.refl w).alloc (.cells #[.slice ra m.regs.length rc,.slice ca m.comps.length cc,.slice (some ⟨gb,goff,none⟩) m.gates.length gc,.int .i64 m.depth] 40)).trans e1).below;obtain⟨kp,hkp⟩:∃kp,w.heap.size=kp:=⟨_,rfl⟩;rw[hkp]at hQ ⊢;replace hkp:=ζ hkp;have hks:kp<W.heap.size:=hQ.1;have d1:W.cell? ⟨kp,2,none⟩=some (.slice (some ⟨gb,goff,none⟩) m.gates.length gc):=hQ.2.1 2;have d5:W.cell? ⟨gb,goff+g*4+2,none⟩=some (.slice xa n xc):=(G.out.cell (p:=⟨gb,_,none⟩) hgb0).trans e2;have hgb:gb<W.heap.size:=Nat.lt_of_lt_of_le hgb0 G.out.size;replace hA0:=ζ (hA0.out.bl G.out);replace hQ:=ζ hQ;clear e2 hgb0 e1 hRt;have hks':=ζ hks;go_upto_region 6 with fail
 replace d1:=ζ d1;replace d5:=ζ d5;clear hks;go_loopw [10,11] (fun v x wr=>∃(la:Option Addr) (lc j:Nat),v=.slice la j lc∧x=.int .i64 j∧j≤n∧Hz (wr.ownsRow W.heap.size 25 1 (.slice la j lc) j ((entN A j).map uN))∧Hz (Below W.heap.size W wr)) (fun _ x _=>n - (intOf x).toNat)
 case atStart=>exact⟨none,0,0,rfl,rfl,Nat.zero_le _,ζ (World.ownsRow_nil _ _ _ _),ζ (Below.refl _ _)⟩
 case round=>
  obtain⟨la,lc,j,rfl,rfl,hj,hown,hB⟩:=hrel;have e1:=(T.cell_of_block (hB.out.block kp hks'.out) 2).trans d1.out;have e5:=(T.cell_of_block (hB.out.block gb hgb) _).trans d5.out;by_cases hlt:j<n
  ·have q1:(j:Int)<(n:Int):=by omega
   have hwr:IntKind.u64.wrap (j:Int)=(j:Int):=by rw[IntKind.wrap_u64];omega
   by_cases hja:j<A.length
   ·have hji:(j:Int)<(A.length:Int):=Int.ofNat_lt.2 hja;obtain⟨ab,ao,rfl,hab,hac⟩:=hA0.out j hja;have e7:=(T.cell_of_block (hB.out.block ab hab) _).trans hac;have hvl:Hz (A.getD j j=A[j]):=ζ (by simp[hja]);go_upto_region 11 with fail
    clear e7 hwr;refine wp_region_lit ?_;iterate 3 (refine xp fun K hK=>?_;go_simp;with_reducible refine hK _ _ ?_;clear hK K;(try simp only[xap]))
    have hX:At (wr.alloc (.cells #[.int .u64 ((A[j]'hja:Nat):Int)] 25)) wr.heap.size #[.int .u64 ((A[j]'hja:Nat):Int)]:=At.new wr _ _;have ho2:(wr.alloc (.cells #[.int .u64 ((A[j]'hja:Nat):Int)] 25)).ownsRow W.heap.size 25 1 (.slice la j lc) j ((entN A j).map uN):=hown.out.alloc _;have hB2:Hz (Below W.heap.size W (wr.alloc (.cells #[.int .u64 ((A[j]'hja:Nat):Int)] 25))):=ζ (hB.out.alloc hB.out.size _);generalize hVV:wr.alloc (.cells #[.int .u64 ((A[j]'hja:Nat):Int)] 25)=V at*;clear hVV;generalize wr.heap.size=kX at*;refine xp fun K hK=>?_
    refine wp_append_z _ _ 46 25 (.int .u64 0) 1 8 rfl Tryz.underlying46 (by kernel_rfl) (by kernel_rfl) (by decide) (by decide) W.heap.size (.slice la j lc) j ((entN A j).map uN) [.int .u64 ((A[j]'hja:Nat):Int)] (by rfl) ho2 kX (by rfl) hX rfl (by simp[Value.oneCell']) (by omega) hB2.out.size ?_;intro g9 cap w9 k1 k2 k3;have hB3:Hz (Below W.heap.size W w9):=ζ (hB2.out.trans ⟨k2.os,k2.tape,k2.output,k2.size,fun k hk=>k2.block k (Nat.lt_of_lt_of_le hk hB2.out.size) (fun e=>by have:=(ho2.lt k e.symm).1;omega)⟩);have k4:Hz (w9.ownsRow W.heap.size 25 1 (.slice (some ⟨g9,0,none⟩) (j+1) cap) (j+1) ((entN A (j+1)).map uN)):=ζ (by rw[entN_succ,List.map_append,hvl.out];exact k1);clear k1 k2 k3 ho2 hX hB2 hB hown e1 e5;refine hK _ _ ?_;clear hK K;try simp only[xap]
    go_wp2_with fail;refine⟨⟨_,_,j+1,rfl,?_,hlt,k4,hB3⟩,?_⟩
    ·go_num
    ·simp[intOf];omega
   ·have hji:¬(j:Int)<(A.length:Int):=fun q=>hja (Int.ofNat_lt.1 q)
    have hvl:Hz (A.getD j j=j):=ζ (by simp[hja]);go_upto_region 11 with fail
    clear hwr;refine wp_region_lit ?_;iterate 3 (refine xp fun K hK=>?_;go_simp;with_reducible refine hK _ _ ?_;clear hK K;(try simp only[xap]))
    have hX:At (wr.alloc (.cells #[.int .u64 (j:Int)] 25)) wr.heap.size #[.int .u64 (j:Int)]:=At.new wr _ _;have ho2:(wr.alloc (.cells #[.int .u64 (j:Int)] 25)).ownsRow W.heap.size 25 1 (.slice la j lc) j ((entN A j).map uN):=hown.out.alloc _;have hB2:Hz (Below W.heap.size W (wr.alloc (.cells #[.int .u64 (j:Int)] 25))):=ζ (hB.out.alloc hB.out.size _);generalize hVV:wr.alloc (.cells #[.int .u64 (j:Int)] 25)=V at*;clear hVV;generalize wr.heap.size=kX at*;refine xp fun K hK=>?_
    refine wp_append_z _ _ 46 25 (.int .u64 0) 1 8 rfl Tryz.underlying46 (by kernel_rfl) (by kernel_rfl) (by decide) (by decide) W.heap.size (.slice la j lc) j ((entN A j).map uN) [.int .u64 (j:Int)] (by rfl) ho2 kX (by rfl) hX rfl (by simp[Value.oneCell']) (by omega) hB2.out.size ?_;intro g9 cap w9 k1 k2 k3;have hB3:Hz (Below W.heap.size W w9):=ζ (hB2.out.trans ⟨k2.os,k2.tape,k2.output,k2.size,fun k hk=>k2.block k (Nat.lt_of_lt_of_le hk hB2.out.size) (fun e=>by have:=(ho2.lt k e.symm).1;omega)⟩);have k4:Hz (w9.ownsRow W.heap.size 25 1 (.slice (some ⟨g9,0,none⟩) (j+1) cap) (j+1) ((entN A (j+1)).map uN)):=ζ (by rw[entN_succ,List.map_append,hvl.out];exact k1);clear k1 k2 k3 ho2 hX hB2 hB hown e1 e5;refine hK _ _ ?_;clear hK K;try simp only[xap]
    go_wp2_with fail;refine⟨⟨_,_,j+1,rfl,?_,hlt,k4,hB3⟩,?_⟩
    ·go_num
    ·simp[intOf];omega
  ·obtain rfl:j=n:=by omega
   have q1:¬(j:Int)<(j:Int):=by omega
   have hnum:=ζ (num_own hln.out hown.out);have gW:=ζ (Bl.trans G.out hB.out);have hQ1:=Bl.at_ hB.out hQ.out;have⟨l1,p1,_⟩:=hQ1;clear hQ1;go_wp2_with fail;refine(hNw.out _ gW.out _ _ hnum.out).mono ?_;rintro x W5 ⟨rfl,e5⟩;have gF:=ζ (Bl.trans gW.out e5);go_wp2_with fail;go_ret;exact⟨rfl,gF.out⟩
theorem beg18_ok (m:PImg)(g:Nat)(A I:List Nat)(ra ca ga aa ia:Option Addr)(rc cc gc ac ic:Nat)(w:World)(ht:TabIn w)(hm:ImgIn w.heap.size w ra ca ga m)(hr:m.Rng)(hA:NumIn w aa A)(hI:InS w ia I ic)(hil:I.length≤2000000)(hrt:m.right=0)(hgl:g<m.gates.length)(hent:isEnt m g=true):Calls Tryz.prog 9 #[.agg #[.slice ra m.regs.length rc,.slice ca m.comps.length cc,.slice ga m.gates.length gc,.int .i64 m.depth],.int .i64 g,.slice aa A.length ac,.slice ia I.length ic] w fun x w'=>∃a B,x=.returned (.pointer (some ⟨a,0,none⟩))∧MIn B w' a (bare m) (start m g (entN A m.gates[g].args.length) I) []∧w.heap.size≤B∧Bl w w':=by
 have hRt:=ζ (fun X (q:Gr w X)=>imgRight_any m ra ca ga rc cc gc X (ht.gr q) ((hm.below q.below).mono q.below.size) hr);have hth:=ζ (th_of m hrt hr);have h7:m.gates[g].args.length≤7:=(hth.out.gates _ (List.getElem_mem hgl)).2.2.1;have hln:=entN_len A m.gates[g].args.length;have hNw:=ζ (fun X (q:Bl w X) aa ac (hn:NumIn X aa (entN A m.gates[g].args.length))=>new_ok m g (entN A m.gates[g].args.length) I ra ca ga aa ia rc cc gc ac ic X (TabIn.bl ht q) ((hm.below q).mono q.size) hr hrt hent (eq_len hgl A) hn (hI.bl q) hil);rw[hln]at hNw;rw[hrt]at hRt;obtain⟨gb,goff,xa,xc,ya,yc,rfl,_,hgb0,_,_,e2,_,_,_⟩:=hm.gates g hgl;replace e2:w.cell? ⟨gb,goff+g*4+2,none⟩=some (.slice xa m.gates[g].args.length xc):=e2;have hgi:(g:Int)<(m.gates.length:Int):=Int.ofNat_lt.2 hgl;generalize m.gates[g].args.length=n at*;have hA0:=ζ hA;replace hln:=ζ hln;clear hm hr ht hA hrt hI hil hth;go_enter Tryz.func9,Tryz.ntmps9
 go_wp2_with fail;refine(hRt.out _ ((Gr.refl w).alloc _)).mono ?_;rintro x W ⟨rfl,e1⟩;have hQ:=Bl.at_ (Bl.gr e1) (At.new w #[.slice ra m.regs.length rc,.slice ca m.comps.length cc,.slice (some ⟨gb,goff,none⟩) m.gates.length gc,.int .i64 m.depth] 40);have G:=ζ (((Gr.refl w).alloc (.cells #[.slice ra m.regs.length rc,.slice ca m.comps.length cc,.slice (some ⟨gb,goff,none⟩) m.gates.length gc,.int .i64 m.depth] 40)).trans e1).below;obtain⟨kp,hkp⟩:∃kp,w.heap.size=kp:=⟨_,rfl⟩;rw[hkp]at hQ ⊢;replace hkp:=ζ hkp;have hks:kp<W.heap.size:=hQ.1;have d1:W.cell? ⟨kp,2,none⟩=some (.slice (some ⟨gb,goff,none⟩) m.gates.length gc):=hQ.2.1 2;have d5:W.cell? ⟨gb,goff+g*4+2,none⟩=some (.slice xa n xc):=(G.out.cell (p:=⟨gb,_,none⟩) hgb0).trans e2;have hgb:gb<W.heap.size:=Nat.lt_of_lt_of_le hgb0 G.out.size;replace hA0:=ζ (hA0.out.bl G.out);replace hQ:=ζ hQ;clear e2 hgb0 e1 hRt;have hks':=ζ hks;go_upto_region 6 with fail
 replace d1:=ζ d1;replace d5:=ζ d5;clear hks;go_loopw [10,11] (fun v x wr=>∃(la:Option Addr) (lc j:Nat),v=.slice la j lc∧x=.int .i64 j∧j≤n∧Hz (wr.ownsRow W.heap.size 25 1 (.slice la j lc) j ((entN A j).map uN))∧Hz (Below W.heap.size W wr)) (fun _ x _=>n - (intOf x).toNat)
 case atStart=>exact⟨none,0,0,rfl,rfl,Nat.zero_le _,ζ (World.ownsRow_nil _ _ _ _),ζ (Below.refl _ _)⟩
 case round=>
  obtain⟨la,lc,j,rfl,rfl,hj,hown,hB⟩:=hrel;have e1:=(T.cell_of_block (hB.out.block kp hks'.out) 2).trans d1.out;have e5:=(T.cell_of_block (hB.out.block gb hgb) _).trans d5.out;by_cases hlt:j<n
  ·have q1:(j:Int)<(n:Int):=by omega
   have hwr:IntKind.u64.wrap (j:Int)=(j:Int):=by rw[IntKind.wrap_u64];omega
   by_cases hja:j<A.length
   ·have hji:(j:Int)<(A.length:Int):=Int.ofNat_lt.2 hja;obtain⟨ab,ao,rfl,hab,hac⟩:=hA0.out j hja;have e7:=(T.cell_of_block (hB.out.block ab hab) _).trans hac;have hvl:Hz (A.getD j j=A[j]):=ζ (by simp[hja]);go_upto_region 11 with fail
    clear e7 hwr;refine wp_region_lit ?_;iterate 3 (refine xp fun K hK=>?_;go_simp;with_reducible refine hK _ _ ?_;clear hK K;(try simp only[xap]))
    have hX:At (wr.alloc (.cells #[.int .u64 ((A[j]'hja:Nat):Int)] 25)) wr.heap.size #[.int .u64 ((A[j]'hja:Nat):Int)]:=At.new wr _ _;have ho2:(wr.alloc (.cells #[.int .u64 ((A[j]'hja:Nat):Int)] 25)).ownsRow W.heap.size 25 1 (.slice la j lc) j ((entN A j).map uN):=hown.out.alloc _;have hB2:Hz (Below W.heap.size W (wr.alloc (.cells #[.int .u64 ((A[j]'hja:Nat):Int)] 25))):=ζ (hB.out.alloc hB.out.size _);generalize hVV:wr.alloc (.cells #[.int .u64 ((A[j]'hja:Nat):Int)] 25)=V at*;clear hVV;generalize wr.heap.size=kX at*;refine xp fun K hK=>?_
    refine wp_append_z _ _ 46 25 (.int .u64 0) 1 8 rfl Tryz.underlying46 (by kernel_rfl) (by kernel_rfl) (by decide) (by decide) W.heap.size (.slice la j lc) j ((entN A j).map uN) [.int .u64 ((A[j]'hja:Nat):Int)] (by rfl) ho2 kX (by rfl) hX rfl (by simp[Value.oneCell']) (by omega) hB2.out.size ?_;intro g9 cap w9 k1 k2 k3;have hB3:Hz (Below W.heap.size W w9):=ζ (hB2.out.trans ⟨k2.os,k2.tape,k2.output,k2.size,fun k hk=>k2.block k (Nat.lt_of_lt_of_le hk hB2.out.size) (fun e=>by have:=(ho2.lt k e.symm).1;omega)⟩);have k4:Hz (w9.ownsRow W.heap.size 25 1 (.slice (some ⟨g9,0,none⟩) (j+1) cap) (j+1) ((entN A (j+1)).map uN)):=ζ (by rw[entN_succ,List.map_append,hvl.out];exact k1);clear k1 k2 k3 ho2 hX hB2 hB hown e1 e5;refine hK _ _ ?_;clear hK K;try simp only[xap]
    go_wp2_with fail;refine⟨⟨_,_,j+1,rfl,?_,hlt,k4,hB3⟩,?_⟩
    ·go_num
    ·simp[intOf];omega
   ·have hji:¬(j:Int)<(A.length:Int):=fun q=>hja (Int.ofNat_lt.1 q)
    have hvl:Hz (A.getD j j=j):=ζ (by simp[hja]);go_upto_region 11 with fail
    clear hwr;refine wp_region_lit ?_;iterate 3 (refine xp fun K hK=>?_;go_simp;with_reducible refine hK _ _ ?_;clear hK K;(try simp only[xap]))
    have hX:At (wr.alloc (.cells #[.int .u64 (j:Int)] 25)) wr.heap.size #[.int .u64 (j:Int)]:=At.new wr _ _;have ho2:(wr.alloc (.cells #[.int .u64 (j:Int)] 25)).ownsRow W.heap.size 25 1 (.slice la j lc) j ((entN A j).map uN):=hown.out.alloc _;have hB2:Hz (Below W.heap.size W (wr.alloc (.cells #[.int .u64 (j:Int)] 25))):=ζ (hB.out.alloc hB.out.size _);generalize hVV:wr.alloc (.cells #[.int .u64 (j:Int)] 25)=V at*;clear hVV;generalize wr.heap.size=kX at*;refine xp fun K hK=>?_
    refine wp_append_z _ _ 46 25 (.int .u64 0) 1 8 rfl Tryz.underlying46 (by kernel_rfl) (by kernel_rfl) (by decide) (by decide) W.heap.size (.slice la j lc) j ((entN A j).map uN) [.int .u64 (j:Int)] (by rfl) ho2 kX (by rfl) hX rfl (by simp[Value.oneCell']) (by omega) hB2.out.size ?_;intro g9 cap w9 k1 k2 k3;have hB3:Hz (Below W.heap.size W w9):=ζ (hB2.out.trans ⟨k2.os,k2.tape,k2.output,k2.size,fun k hk=>k2.block k (Nat.lt_of_lt_of_le hk hB2.out.size) (fun e=>by have:=(ho2.lt k e.symm).1;omega)⟩);have k4:Hz (w9.ownsRow W.heap.size 25 1 (.slice (some ⟨g9,0,none⟩) (j+1) cap) (j+1) ((entN A (j+1)).map uN)):=ζ (by rw[entN_succ,List.map_append,hvl.out];exact k1);clear k1 k2 k3 ho2 hX hB2 hB hown e1 e5;refine hK _ _ ?_;clear hK K;try simp only[xap]
    go_wp2_with fail;refine⟨⟨_,_,j+1,rfl,?_,hlt,k4,hB3⟩,?_⟩
    ·go_num
    ·simp[intOf];omega
  ·obtain rfl:j=n:=by omega
   have q1:¬(j:Int)<(j:Int):=by omega
   have hnum:=ζ (num_own hln.out hown.out);have gW:=ζ (Bl.trans G.out hB.out);have hQ1:=Bl.at_ hB.out hQ.out;have⟨l1,p1,_⟩:=hQ1;clear hQ1;go_wp2_with fail;refine(hNw.out _ gW.out _ _ hnum.out).mono ?_;rintro x W5 ⟨a,rfl,hM,e5⟩;have hsz:=ζ gW.out.size;have gF:=ζ (Bl.trans gW.out e5);replace hM:=ζ hM;go_wp2_with fail;go_ret;exact⟨a,_,rfl,hM.out,hsz.out,gF.out⟩
end C
end Go.Proofs.YthlpjlnehonpdaaGreatDoor
