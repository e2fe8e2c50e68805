import Derived.Test.YthlpjlnehonpdaaGreatDoorJ45
import Derived.Test.YthlpjlnehonpdaaGreatDoorJ36
import Derived.Test.YthlpjlnehonpdaaGreatDoorJ43
namespace Go.Proofs.YthlpjlnehonpdaaGreatDoor
namespace C
open Go.RowKit
open T (Sep Ob Kp Mf TgIn boxOb Fm Tc Ed Vl Cp Bx tgOb mRow)
section
variable {P:PImg} {n:Nat} {s s':Ms} {e:Ed}
theorem Okm.more (h:Okm P n s)(k:Nat):Okm P (n+k) s:=⟨h.f,h.st,h.dp,h.inp,by have:=h.out;omega,by have:=h.tou;omega,h.t⟩
theorem Okm.ended (h:Okm P n s)(e:Ed):Okm P n (s.ended e):=⟨h.f,h.st,h.dp,h.inp,h.out,h.tou,h.t⟩
theorem okm_steps (hP:POk P):∀(k:Nat) {n:Nat} {s:Ms},Okm P n s→Okm P (n+k) (stepsM P k s)
 |0,_,_,h=>h
 |k+1,n,s,h=>by
  by_cases h0:s.over.e=0
  ·cases hq:stepM P s with
   |ok s'=>
    rw[stepsM_ok h0 hq];have:=okm_steps hP k (okm_step hP h hq)
    rwa [show n+1+k=n+(k+1)by omega]at this
   |error e=>
    rw[stepsM_err h0 hq];exact(h.more _).ended e
  ·rw[stepsM_end h0];exact h.more _
end
theorem step_oc (P:PImg)(hP:POk P)(s:Ms)(c:Nat)(hs:Okm P c s)(hn:c+1≤1000000)(t:Ms)(ht:stepsM P 1 s=t)(B:Nat)(W:World)(a:Nat)(l:List Ob)(h:MIn B W a P s l):
 Calls Tryz.prog 31 #[.pointer (some ⟨a,0,none⟩)] W fun x w'=>x=.returned (.agg #[.int .i64 t.over.e,.int .u64 t.over.v,.int .i64 t.over.f,.int .i64 t.at_.gate,.int .i64 t.at_.pc])∧MIn B w' a P t l∧Below B W w':=by
 rw[←ht];exact step_any B W a P s l c hP h hs hn
def wO (s:Ms)(j:Nat):List Value:=if j=0 then [.int .i64 0,.int .u64 0,.int .i64 0,.int .i64 0,.int .i64 0]else tl s
theorem wO_succ (s:Ms)(j:Nat):wO s (j+1)=[.int .i64 s.over.e,.int .u64 s.over.v,.int .i64 s.over.f,.int .i64 s.at_.gate,.int .i64 s.at_.pc]:=rfl
theorem wO_len (s:Ms)(j:Nat):(wO s j).length=5:=by unfold wO;split<;>rfl
open T (Sep Ob Kp Mf TgIn boxOb Fm Tc Ed Vl Cp Bx tgOb mRow updV flt ofI)
section
variable {P:PImg} {n:Nat} {s s':Ms}
def OnAt (L:List Ins)(op:Int)(p q:Nat):Prop:=(q=L.length∧p+1=L.length∧op≠20)∨F.folB L p q=true
theorem at_next {L:List Ins}{p:Nat}{i:Ins}(hi:L[p]?=some i)(hw:F.wayN i.op=0∨F.wayN i.op=2):OnAt L i.op p (p+1):=by
 have hp:p<L.length:=(List.getElem?_eq_some_iff.1 hi).1;have h20:i.op≠20:=fun q=>by rw[q]at hw;revert hw;decide
 by_cases hl:p+1<L.length
 ·right
  unfold F.folB;rw[hi];rcases hw with hw|hw<;>simp[hl,hw,F.wyF]
 ·exact .inl ⟨by omega,by omega,h20⟩
theorem at_to {L:List Ins}{p q:Nat}{i:Ins}(hi:L[p]?=some i)(hw:F.wayN i.op=1∨F.wayN i.op=2)(hq:(q:Int)=i.m)(hl:q<L.length):OnAt L i.op p q:=by
 right
 unfold F.folB;rw[hi];rcases hw with hw|hw<;>simp[hl,hw,F.wyF,hq]
theorem at_any {L:List Ins}{p q:Nat}{i:Ins}(hi:L[p]?=some i)(hw:F.wayN i.op=3)(hl:q<L.length):OnAt L i.op p q:=by
 right
 unfold F.folB;rw[hi];simp[hl,hw,F.wyF]
theorem way0 {op:Int}(h:op≤13∨op=25∨op=29∨op=30∨33≤op):F.wayN op=0:=by
 unfold F.wayN;rw[if_neg (by omega),if_neg (by omega),if_neg (by omega),if_neg (by omega)]
theorem way2 {op:Int}(h:21≤op∧op≤24):F.wayN op=2:=by
 unfold F.wayN;rw[if_neg (by omega),if_pos (by omega)]
theorem tgt_lt {k q:Nat}{v:Vl}(h:tgtR P k v=.ok q):q<(codeOf P k).length:=by
 unfold tgtR at h
 split at h
 ·split at h
  ·split at h
   ·rename_i z
    injection h with h
    have:=(wrap64_in (v.c.c - codeBase k)).1;unfold offC at z h;omega
   ·cases h
  ·cases h
 ·cases h
theorem step_flow (hP:POk P){i:Ins}(hi:(codeOf P (kOf P s.at_.gate))[s.at_.pc]?=some i)(hc:i.op≠31)(hr:i.op≠32)(h:stepM P s=.ok s'):OnAt (codeOf P (kOf P s.at_.gate)) i.op s.at_.pc s'.at_.pc:=by
 have hio:=(hP.code (kOf P s.at_.gate)).2 i (List.mem_of_getElem? hi);have hop:=hio.op;unfold stepM at h;rw[hi]at h;simp only at h;unfold insM at h
 split at h
 ·obtain⟨v,_,rfl⟩:=lay_ok h;exact at_next hi (.inl (way0 (by omega)))
 split at h
 ·unfold strM at h
  split at h
  ·rename_i q
   injection h with h;subst h
   have:=hio.tg (by omega);exact at_to hi (.inl (by rw[q];decide)) (show((i.m.toNat:Nat):Int)=i.m by omega) (show i.m.toNat<_ by omega)
  split at h
  ·have hb:21≤i.op∧i.op≤24:=by omega
   have:=hio.tg (by omega);unfold braM at h
   split at h
   ·cases h
   ·split at h
    ·cases h
    ·injection h with h;subst h;split
     ·exact at_to hi (.inr (way2 hb)) (show((i.m.toNat:Nat):Int)=i.m by omega) (show i.m.toNat<_ by omega)
     ·exact at_next hi (.inr (way2 hb))
  split at h
  ·injection h with h;subst h;exact at_next hi (.inl (way0 (by omega)))
  split at h
  ·rename_i q
   unfold goR at h
   split at h
   ·rename_i k hk
    injection h with h;subst h;exact at_any hi (by rw[q];decide) (tgt_lt hk)
   ·cases h
  split at h
  ·unfold haltM at h
   split at h<;>cases h
  split at h
  ·cases h
  split at h
  ·unfold inM at h
   split at h
   ·cases h
   ·injection h with h;subst h;exact at_next hi (.inl (way0 (by omega)))
  split at h
  ·unfold outM at h
   split at h
   ·cases h
   ·injection h with h;subst h;exact at_next hi (.inl (way0 (by omega)))
  exfalso
  omega
 have hw:F.wayN i.op=0:=way0 (by omega)
 split at h
 ·obtain⟨v,_,rfl⟩:=lay_ok h;exact at_next hi (.inl hw)
 split at h
 ·obtain⟨v,_,rfl⟩:=lay_ok h;exact at_next hi (.inl hw)
 split at h
 ·have l1:∀sz,loadM s i.a.toNat i.b.toNat i.m sz=.ok s'→s'.at_.pc=s.at_.pc+1:=fun sz h=>by
   unfold loadM at h
   split at h
   ·cases h
   ·split at h
    ·injection h with h;subst h;rfl
    ·cases h
  have l2:∀sz,storeM s i.a.toNat i.b.toNat i.m sz=.ok s'→s'.at_.pc=s.at_.pc+1:=fun sz h=>by
   unfold storeM at h
   split at h
   ·cases h
   ·split at h
    ·cases h
    ·split at h
     ·injection h with h;subst h;rfl
     ·cases h
  have l3:s'.at_.pc=s.at_.pc+1:=by
   unfold touM at h
   split at h
   ·exact l1 _ h
   split at h
   ·exact l1 _ h
   split at h
   ·exact l2 _ h
   split at h
   ·exact l2 _ h
   split at h
   ·unfold ldcM at h
    split at h
    ·cases h
    ·split at h
     ·injection h with h;subst h;rfl
     ·cases h
   ·unfold stcM at h
    split at h
    ·cases h
    ·split at h
     ·injection h with h;subst h;rfl
     ·cases h
  rw[l3];exact at_next hi (.inl hw)
 ·unfold grdR at h
  split at h
  ·cases h
  ·injection h with h;subst h;exact at_next hi (.inl hw)
  ·cases h
end
section
variable {P:PImg} {s s':Ms}
theorem step_call {i:Ins}(hi:(codeOf P (kOf P s.at_.gate))[s.at_.pc]?=some i)(h31:i.op=31)(h:stepM P s=.ok s'):
 fitN s.at_.regs (argsOf P i.m.toNat) (argsOf P i.m.toNat).length=true∧s'.at_=entF P i.m.toNat s.at_.regs (argsOf P i.m.toNat).length∧s'.st=s.st++[s.next.at_]:=by
 unfold stepM at h;rw[hi]at h;simp only at h;unfold insM at h;rw[if_neg (by omega),if_pos (by omega)]at h;unfold strM at h;rw[if_neg (by omega),if_neg (by omega),if_neg (by omega),if_neg (by omega),if_neg (by omega),if_neg (by omega),if_neg (by omega),if_neg (by omega),if_pos h31]at h;unfold callM at h
 split at h
 ·rename_i hf
  split at h
  ·cases h
  ·injection h with h
   subst h;exact⟨hf,rfl,rfl⟩
 ·cases h
theorem step_ret {i:Ins}(hi:(codeOf P (kOf P s.at_.gate))[s.at_.pc]?=some i)(h32:i.op=32)(h:stepM P s=.ok s'):
 fitN s.at_.regs (resOf P s.at_.gate) (resOf P s.at_.gate).length=true∧∃L f,s.st=L++[f]∧s'.at_=backF f s.at_.regs (resOf P s.at_.gate).length∧s'.st=L:=by
 unfold stepM at h;rw[hi]at h;simp only at h;unfold insM at h;rw[if_neg (by omega),if_pos (by omega)]at h;unfold strM at h;rw[if_neg (by omega),if_neg (by omega),if_neg (by omega),if_neg (by omega),if_neg (by omega),if_neg (by omega),if_neg (by omega),if_neg (by omega),if_neg (by omega)]at h;unfold retM at h
 split at h
 ·rename_i hf
  rcases List.eq_nil_or_concat s.st with hz|⟨L,f,hz⟩
  ·rw[hz]at h;cases h
  ·rw[List.concat_eq_append]at hz;rw[hz]at h;simp only[List.getLast?_append,List.getLast?_singleton,Option.some_or,List.dropLast_concat]at h;injection h with h
   subst h;exact⟨hf,L,f,hz,rfl,rfl⟩
 ·cases h
end
end C
namespace Bd
open Go.RowKit
open T (Ed Vl flt)
open C (Ms stepM codeOf kOf insM strM callM retM haltM inM outM braM layM goR recM twoR madeR derR askR plcR granR touM loadM storeM ldcM stcM grdR holR tgtR capV nmbV lay_err)
def EdNo (e:Ed):Prop:=e.e≠5∧e.e≠6
theorem en_flt (f:Int)(_:f≠0):EdNo (flt f):=⟨by show(7:Int)≠5;decide,by show(7:Int)≠6;decide⟩
theorem en_lit {a b c:Int}(h:a≠5∧a≠6):EdNo ⟨a,b,c⟩:=h
theorem no_of {e:Ed}{A B:Prop}(h:EdNo e):(e.e=5→A)∧(e.e=6→B):=⟨fun q=>absurd q h.1,fun q=>absurd q h.2⟩
section
variable {P:PImg} {s s':Ms} {e:Ed}
theorem en_two {op:Int}{v u:Vl}(h:twoR op v u=.error e):EdNo e:=by
 unfold twoR at h
 split at h
 ·injection h with h;subst h;exact en_flt _ (by first|decide|assumption)
 ·split at h
  ·injection h with h;subst h;exact en_flt _ (by first|decide|assumption)
  ·cases h
theorem en_rec {op m:Int}{B C:Nat}(h:recM s op B C m=.error e):EdNo e:=by
 unfold recM at h
 split at h
 ·cases h
 split at h
 ·cases h
 split at h
 ·split at h
  ·injection h with h;subst h;exact en_flt _ (by first|decide|assumption)
  ·cases h
 ·exact en_two h
theorem en_made {op m:Int}{v u:Vl}(h:madeR op m v u=.error e):EdNo e:=by
 unfold madeR at h
 repeat' split at h
 all_goals first
  |(injection h with h;subst h;exact en_flt _ (by first|decide|assumption))
  |cases h
theorem en_der {op m:Int}{v u:Vl}(h:derR op m v u=.error e):EdNo e:=by
 unfold derR at h
 cases hq:madeR op m v u with
 |error x=>rw[hq]at h;injection h with h;subst h;exact en_made hq
 |ok r=>
  rw[hq]at h;simp only at h
  split at h
  ·cases h
  ·injection h with h;subst h;exact en_flt _ (by first|decide|assumption)
theorem en_ask {op:Int}{v u:Vl}(h:askR op v u=.error e):EdNo e:=by
 unfold askR at h
 split at h
 ·cases h
 split at h
 ·cases h
 split at h
 ·cases h
 ·injection h with h;subst h;exact en_flt _ (by first|decide|assumption)
theorem en_plc {m sz p:Int}{v:Vl}(h:plcR m sz p v=.error e):EdNo e:=by
 unfold plcR at h
 split at h
 ·split at h
  ·cases h
  ·injection h with h;subst h;exact en_flt _ (by first|decide|assumption)
 ·injection h with h;subst h;exact en_flt _ (by first|decide|assumption)
theorem en_gran {m p:Int}{v:Vl}(h:granR m p v=.error e):EdNo e:=by
 unfold granR at h
 cases hq:plcR m 16 p v with
 |error x=>rw[hq]at h;injection h with h;subst h;exact en_plc hq
 |ok n=>
  rw[hq]at h;simp only at h
  split at h
  ·cases h
  ·injection h with h;subst h;exact en_flt _ (by first|decide|assumption)
theorem en_load {A B sz:Nat}{m:Int}(h:loadM s A B m sz=.error e):EdNo e:=by
 unfold loadM at h
 split at h
 ·rename_i x hq;injection h with h;subst h;exact en_plc hq
 ·split at h
  ·cases h
  ·injection h with h;subst h;exact en_flt _ (by first|decide|assumption)
theorem en_store {A B sz:Nat}{m:Int}(h:storeM s A B m sz=.error e):EdNo e:=by
 unfold storeM at h
 split at h
 ·injection h with h;subst h;exact en_flt _ (by first|decide|assumption)
 ·split at h
  ·rename_i x hq;injection h with h;subst h;exact en_plc hq
  ·split at h
   ·cases h
   ·injection h with h;subst h;exact en_flt _ (by first|decide|assumption)
theorem en_touch {op m:Int}{A B:Nat}(h:touM s op A B m=.error e):EdNo e:=by
 unfold touM at h
 split at h
 ·exact en_load h
 split at h
 ·exact en_load h
 split at h
 ·exact en_store h
 split at h
 ·exact en_store h
 split at h
 ·unfold ldcM at h
  split at h
  ·rename_i x hq;injection h with h;subst h;exact en_gran hq
  ·split at h
   ·cases h
   ·injection h with h;subst h;exact en_flt _ (by first|decide|assumption)
 ·unfold stcM at h
  split at h
  ·rename_i x hq;injection h with h;subst h;exact en_gran hq
  ·split at h
   ·cases h
   ·injection h with h;subst h;exact en_flt _ (by first|decide|assumption)
theorem en_hol {op m:Int}{v:Vl}(h:holR op m v=.error e):EdNo e:=by
 unfold holR at h
 split at h
 ·split at h
  ·injection h with h;subst h;exact en_flt _ (by first|decide|assumption)
  ·cases h
 split at h
 ·split at h
  ·injection h with h;subst h;exact en_flt _ (by first|decide|assumption)
  ·cases h
 split at h
 ·cases h
 split at h
 ·split at h
  ·cases h
  ·split at h
   ·cases h
   ·cases h
 ·injection h with h;subst h;exact en_flt _ (by first|decide|assumption)
theorem en_tgt {k:Nat}{v:Vl}(h:tgtR P k v=.error e):EdNo e:=by
 unfold tgtR at h
 split at h
 ·split at h
  ·split at h
   ·cases h
   ·injection h with h;subst h;exact en_flt _ (by first|decide|assumption)
  ·injection h with h;subst h;exact en_flt _ (by first|decide|assumption)
 ·injection h with h;subst h;exact en_flt _ (by first|decide|assumption)
theorem step_no (h:stepM P s=.error e):(e.e=5→∃i,(codeOf P (kOf P s.at_.gate))[s.at_.pc]?=some i∧i.op=31∧P.depth≤s.st.length)∧(e.e=6→∃i,(codeOf P (kOf P s.at_.gate))[s.at_.pc]?=some i∧i.op=29∧s.inp=[]):=by
 unfold stepM at h
 split at h
 ·injection h with h;subst h;exact no_of (en_flt _ (by first|decide|assumption))
 ·rename_i i hi
  unfold insM at h
  split at h
  ·exact no_of (en_rec (lay_err h))
  split at h
  ·unfold strM at h
   split at h
   ·cases h
   split at h
   ·unfold braM at h
    split at h
    ·injection h with h;subst h;exact no_of (en_flt _ (by first|decide|assumption))
    ·split at h
     ·injection h with h;subst h;exact no_of (en_flt _ (by first|decide|assumption))
     ·cases h
   split at h
   ·cases h
   split at h
   ·unfold goR at h
    split at h
    ·cases h
    ·rename_i x hq;injection h with h;subst h;exact no_of (en_tgt hq)
   split at h
   ·unfold haltM at h
    split at h
    ·injection h with h;subst h;exact no_of (en_flt _ (by first|decide|assumption))
    ·injection h with h;subst h;exact no_of (en_lit (by decide))
   split at h
   ·injection h with h;subst h;exact no_of (en_lit (by decide))
   split at h
   ·rename_i q29
    unfold inM at h
    split at h
    ·rename_i hI;injection h with h;subst h;exact⟨fun q=>absurd q (by decide),fun _=>⟨i,hi,q29,hI⟩⟩
    ·cases h
   split at h
   ·unfold outM at h
    split at h
    ·injection h with h;subst h;exact no_of (en_flt _ (by first|decide|assumption))
    ·cases h
   split at h
   ·rename_i q31
    unfold callM at h
    split at h
    ·split at h
     ·rename_i hd;injection h with h;subst h;exact⟨fun _=>⟨i,hi,q31,hd⟩,fun q=>absurd q (by decide)⟩
     ·cases h
    ·injection h with h;subst h;exact no_of (en_flt _ (by first|decide|assumption))
   ·unfold retM at h
    split at h
    ·split at h
     ·injection h with h;subst h;exact no_of (en_lit (by decide))
     ·cases h
    ·injection h with h;subst h;exact no_of (en_flt _ (by first|decide|assumption))
  split at h
  ·have h1:=lay_err h;unfold capV at h1
   split at h1
   ·cases h1
   ·rename_i x hq;injection h1 with h1;subst h1;exact no_of (en_der hq)
  split at h
  ·have h1:=lay_err h;unfold nmbV at h1
   split at h1
   ·cases h1
   ·rename_i x hq;injection h1 with h1;subst h1;exact no_of (en_ask hq)
  split at h
  ·exact no_of (en_touch h)
  ·unfold grdR at h
   split at h
   ·rename_i x hq;injection h with h;subst h;exact no_of (en_hol hq)
   ·cases h
   ·injection h with h;subst h;exact no_of (en_lit (by decide))
end
open F (folB Rch rchB_iff)
open T (Ed Fm)
open C (Ms POk Okm stepM stepsM codeOf kOf eOf entF insM strM callM retM haltM inM outM braM layM goR recM derR askR touM grdR step_call step_ret step_flow)
theorem jc_lt {P:PImg}{s s':Ms}{i:Ins}(hi:(codeOf P (kOf P s.at_.gate))[s.at_.pc]?=some i)(ho:i.op=26)(h:stepM P s=.ok s'):s'.at_.pc<(codeOf P (kOf P s.at_.gate)).length:=by
 unfold stepM at h;rw[hi]at h;simp only at h;unfold insM at h;rw[if_neg (by omega),if_pos (by omega)]at h;unfold strM at h;rw[if_neg (by omega),if_neg (by omega),if_neg (by omega),if_pos ho]at h;unfold goR at h
 split at h
 ·rename_i k hk
  injection h with h;subst h
  exact C.tgt_lt hk
 ·cases h
theorem ends_no {P:PImg}{s s':Ms}{i:Ins}(hi:(codeOf P (kOf P s.at_.gate))[s.at_.pc]?=some i)(h:stepM P s=.ok s'):i.op≠27∧i.op≠28:=by
 unfold stepM at h;rw[hi]at h;simp only at h;refine⟨fun ho=>?_,fun ho=>?_⟩
 ·unfold insM at h;rw[if_neg (by omega),if_pos (by omega)]at h;unfold strM at h;rw[if_neg (by omega),if_neg (by omega),if_neg (by omega),if_neg (by omega),if_pos ho]at h;unfold haltM at h
  split at h<;>cases h
 ·unfold insM at h;rw[if_neg (by omega),if_pos (by omega)]at h;unfold strM at h;rw[if_neg (by omega),if_neg (by omega),if_neg (by omega),if_neg (by omega),if_neg (by omega),if_pos ho]at h
  cases h
theorem step_gate {P:PImg}{s s':Ms}{i:Ins}(hi:(codeOf P (kOf P s.at_.gate))[s.at_.pc]?=some i)(hc:i.op≠31)(hr:i.op≠32)(h:stepM P s=.ok s'):s'.at_.gate=s.at_.gate∧s'.st=s.st:=by
 have:=C.step_alone hi hc (fun _ _=>hr) h;exact⟨this.gate,this.st⟩
theorem code_same {m P:PImg}(hg:P.gates=m.gates)(hc:P.comps=m.comps)(hok:BOk m){g:Nat}(h:g<m.gates.length):gcode m g=codeOf P (kOf P g)∧(gent m g).toNat=eOf P g:=by
 obtain⟨k,hk,e1,_,_⟩:=hok.gates g h;have h2:g<P.gates.length:=by rw[hg];exact h
 have ek:kOf P g=k:=by
  rw[C.kOf_at P g h2];simp only[hg,e1];omega
 rw[gcode_of h hk e1,gent_of h,ek,C.codeOf_at P k (by rw[hc];exact hk),C.eOf_at P g h2];simp[hg,hc]
section
variable {m P:PImg} {c0:Int} {s s':Ms} {Φ Ψ:Int}
end
/-! Where only the calls in calls are known. -/
structure FrD (m:PImg)(g pc:Nat)(d:Int):Prop where
 lt:g<m.gates.length
 k:ev (nxG m) dpF (List.range m.gates.length) g=some d
 at_:Rch (gcode m g) [gent m g] (-1) pc∨pc=(gcode m g).length
theorem FrD.go {m:PImg}{g pc:Nat}{d:Int}(h:FrD m g pc d){q:Nat}(hp:pc<(gcode m g).length)(hq:q∈nxN (gcode m g) pc):FrD m g q d:=by
 refine⟨h.lt,h.k,?_⟩;rcases h.at_ with r|r
 ·rcases(nxN_mem r.lt q).1 hq with f|⟨_,f⟩
  ·exact .inl (Rch.step r f (by omega))
  ·exact .inr f
 ·omega
theorem FrD.nn {m:PImg}(hok:BOk m){g pc:Nat}{d:Int}(h:FrD m g pc d):0≤d:=by
 have hgl:=hok.gl;exact(evd_le (List.range m.gates.length).length (by rw[List.length_range];omega) g d h.k).1
theorem FrD.call {m:PImg}(hok:BOk m){g pc:Nat}{d:Int}(h:FrD m g pc d){i:Ins}(hi:(gcode m g)[pc]?=some i)(ho:i.op=31):∃e,FrD m i.m.toNat (gent m i.m.toNat).toNat e∧e+1≤d:=by
 have hr:Rch (gcode m g) [gent m g] (-1) pc:=by
  rcases h.at_ with r|r
  ·exact r
  ·rw[r,List.getElem?_eq_none (Nat.le_refl _)]at hi
   cases hi
 have hx:=call_in hr hi ho;have hxl:=List.mem_range.1 (nxG_in hok g (List.mem_range.2 h.lt) _ hx);obtain⟨e,e1,e2,e3⟩:=dp_up hok h.lt hx h.k;obtain⟨en,f1,f2,f3⟩:=entry_rch hok hxl;exact⟨e,⟨hxl,e1,.inl (by rw[f1,Int.toNat_natCast];rw[←f1];exact f3)⟩,e3⟩
inductive StkD (m:PImg) (c0:Int):List Fm→Prop
 |nil:StkD m c0 []
 |snoc {L:List Fm} {f:Fm} {d:Int}:StkD m c0 L→FrD m f.gate f.pc d→(L.length:Int)+d≤c0→StkD m c0 (L++[f])
theorem StkD.pop {m:PImg}{c0:Int}{L:List Fm}{f:Fm}(h:StkD m c0 (L++[f])):∃d,StkD m c0 L∧FrD m f.gate f.pc d∧(L.length:Int)+d≤c0:=by
 generalize hL:L++[f]=K at h
 cases h with
 |nil=>exact absurd (congrArg List.length hL) (by simp)
 |snoc h1 h2 h3=>
  obtain⟨e1,e2⟩:=List.append_inj' hL rfl;injection e2 with e2;subst e1;subst e2;exact⟨_,h1,h2,h3⟩
def RunD (m:PImg)(c0:Int)(s:Ms):Prop:=∃d,StkD m c0 s.st∧FrD m s.at_.gate s.at_.pc d∧(s.st.length:Int)+d≤c0
section
variable {m P:PImg} {c0:Int} {s s':Ms}
theorem RunD.deep (hok:BOk m)(h:RunD m c0 s):(s.st.length:Int)≤c0:=by
 obtain⟨d,h1,h2,h3⟩:=h;have:=h2.nn hok;omega
theorem run_stepD (hP:POk P)(hok:BOk m)(hg:P.gates=m.gates)(hc:P.comps=m.comps)(h:RunD m c0 s)(hs:stepM P s=.ok s'):RunD m c0 s':=by
 obtain⟨d,h1,h2,h3⟩:=h;obtain⟨ec,ee⟩:=code_same hg hc hok h2.lt
 cases hi:(codeOf P (kOf P s.at_.gate))[s.at_.pc]? with
 |none=>
  unfold stepM at hs;rw[hi]at hs
  cases hs
 |some i=>
  have hp:s.at_.pc<(gcode m s.at_.gate).length:=by rw[ec];exact(List.getElem?_eq_some_iff.1 hi).1
  have hi2:(gcode m s.at_.gate)[s.at_.pc]?=some i:=by rw[ec];exact hi
  have hno:=ends_no hi hs;by_cases h31:i.op=31
  ·obtain⟨_,e1,e2⟩:=step_call hi h31 hs;obtain⟨u,u1,u2⟩:=h2.call hok hi2 h31;obtain⟨ec2,ee2⟩:=code_same hg hc hok u1.lt;have hq:s.at_.pc+1∈nxN (gcode m s.at_.gate) s.at_.pc:=by
    refine(nxN_mem hp _).2 ?_;rcases C.at_next hi2 (.inl (by rw[h31];decide))with⟨q1,q2,q3⟩|q
    ·refine .inr ⟨?_,q1⟩;unfold ovB;rw[hi2,decide_eq_true q2];simp[h31]
    ·exact .inl q
   have f1:=h2.go hp hq;have hat:s'.at_.gate=i.m.toNat∧s'.at_.pc=eOf P i.m.toNat:=by
    rw[e1];exact C.roots_gate _ _ _
   have hz:s.next.at_.gate=s.at_.gate∧s.next.at_.pc=s.at_.pc+1:=⟨rfl,rfl⟩;refine⟨u,?_,?_,?_⟩
   ·rw[e2];refine .snoc (d:=d) h1 ?_ h3;rw[hz.1,hz.2];exact f1
   ·rw[hat.1,hat.2,←ee2];exact u1
   ·rw[e2,List.length_append];simp only[List.length_singleton];omega
  by_cases h32:i.op=32
  ·obtain⟨_,L,f,e1,e2,e3⟩:=C.step_ret hi h32 hs;rw[e1]at h1 h3;obtain⟨d',p1,p2,p3⟩:=h1.pop;exact⟨d',by rw[e3];exact p1,by rw[e2];exact p2,by rw[e3];exact p3⟩
  obtain⟨g1,g2⟩:=step_gate hi h31 h32 hs;have hq:s'.at_.pc∈nxN (gcode m s.at_.gate) s.at_.pc:=by
   refine(nxN_mem hp _).2 ?_;have hfl:=step_flow hP hi h31 h32 hs;rw[←ec]at hfl;rcases hfl with⟨q1,q2,q3⟩|q
   ·refine .inr ⟨?_,q1⟩;have h26:i.op≠26:=fun q=>by
     have:=jc_lt hi q hs;rw[←ec]at this;omega
    unfold ovB;rw[hi2,decide_eq_true q2];simp[q3,h26,hno.1,hno.2,h32]
   ·exact .inl q
  exact⟨d,by rw[g2];exact h1,by rw[g1];exact h2.go hp hq,by rw[g2];exact h3⟩
theorem run_errD (hok:BOk m)(hg:P.gates=m.gates)(hc:P.comps=m.comps){e:Ed}(h:RunD m c0 s)(hs:stepM P s=.error e):e.e=5→P.depth<c0:=fun q=>by
 obtain⟨d,h1,h2,h3⟩:=h;obtain⟨ec,ee⟩:=code_same hg hc hok h2.lt;obtain⟨i,hi,q31,hd⟩:=(step_no hs).1 q;have hi2:(gcode m s.at_.gate)[s.at_.pc]?=some i:=by rw[ec];exact hi
 obtain⟨u,u1,u2⟩:=h2.call hok hi2 q31;have:=u1.nn hok;omega
end
end Bd
end Go.Proofs.YthlpjlnehonpdaaGreatDoor
