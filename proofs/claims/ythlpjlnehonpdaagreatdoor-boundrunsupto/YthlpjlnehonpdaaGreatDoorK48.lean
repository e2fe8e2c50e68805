import Derived.Test.YthlpjlnehonpdaaGreatDoorK47
import Derived.Test.YthlpjlnehonpdaaGreatDoorK36
namespace Go.Proofs.YthlpjlnehonpdaaGreatDoor
namespace C
open Go.RowKit
open T (Sep Ob Kp Mf TgIn boxOb Fm Tc Ed Vl Cp Bx tgOb mRow updV flt)
def entN (A:List Nat)(n:Nat):List Nat:=(List.range n).map fun i=>A.getD i i
theorem entN_len (A:List Nat)(n:Nat):(entN A n).length=n:=by simp[entN]
theorem entN_succ (A:List Nat)(n:Nat):entN A (n+1)=entN A n++[A.getD n n]:=by simp[entN,List.range_succ]
def uN (x:Nat):Value:=.int .u64 (x:Int)
theorem own_numin {w:World}{lo:Nat}{v:Value}{L:List Nat}(h:w.ownsRow lo 25 1 v L.length (L.map uN)):∃va c,v=.slice va L.length c∧NumIn w va L:=by
 have hlt:=h.lt;rcases h.2 with⟨rfl,h9⟩|⟨g,cap,cur,rfl,hb,hg,hc1,hc2,hc3,hc4⟩
 ·exact⟨none,0,by rw[h9],fun i hi=>by omega⟩
 ·refine⟨_,cap,rfl,fun i hi=>⟨g,0,rfl,(hlt g rfl).2,?_⟩⟩;have:w.cell? ⟨g,0+i,none⟩=cur[i]?:=by simp[World.cell?,hg]
  rw[this];have h2:(L.map uN)[i]?=some (.int .u64 L[i]):=by simp[hi,uN]
  rw[←hc4,List.getElem?_take_of_lt (by omega)]at h2;rw[←h2];simp
theorem TabIn.bl {w W:World}(h:TabIn w)(g:Bl w W):TabIn W:=h.below g h.size
theorem ents_lt (A:List Nat)(n:Nat)(hA:∀x∈A,x<18446744073709551616)(hn:n≤1000):∀x∈entN A n,x<18446744073709551616:=fun x hx=>by
 obtain⟨i,hi,rfl⟩:=List.mem_map.1 hx;have hi':i<n:=List.mem_range.1 hi;by_cases h:i<A.length
 ·have e:A.getD i i=A[i]:=by simp[h]
  rw[e];exact hA _ (List.getElem_mem h)
 ·have e:A.getD i i=i:=by simp[h]
  omega
theorem own_numn {w:World}{lo n:Nat}{v:Value}{L:List Nat}(hl:L.length=n)(h:w.ownsRow lo 25 1 v n (L.map uN)):∃va c,v=.slice va n c∧NumIn w va L:=by
 subst hl;exact own_numin h
theorem eq_len {m:PImg}{g:Nat}(hg:g<m.gates.length)(A:List Nat):(entN A m.gates[g].args.length).length=(argsOf m g).length:=by rw[entN_len,argsOf_at m g hg]
open T (Sep Ob Kp Mf TgIn boxOb Fm Tc Ed Vl Cp Bx tgOb mRow updV flt ofI)
def EdOk (e:Ed):Prop:=e.e≠0∧e.e≠4∧(e.f≠0↔e.e=7)
theorem ed_flt (f:Int)(hf:f≠0):EdOk (flt f):=⟨by show(7:Int)≠0;decide,by show(7:Int)≠4;decide,fun _=>rfl,fun _=>hf⟩
theorem upd_ne {r:Nat→Vl}{i k:Nat}{v:Vl}(h:k≠i):updV r i v k=r k:=by unfold updV;rw[if_neg h]
section
variable {P:PImg} {s s':Ms} {e:Ed}
theorem ed_two {op:Int}{v u:Vl}(h:twoR op v u=.error e):EdOk e:=by
 unfold twoR at h
 split at h
 ·injection h with h;subst h;exact ed_flt _ (by first|decide|assumption)
 ·split at h
  ·injection h with h;subst h;exact ed_flt _ (by first|decide|assumption)
  ·cases h
theorem ed_rec {op m:Int}{B C:Nat}(h:recM s op B C m=.error e):EdOk e:=by
 unfold recM at h
 split at h
 ·cases h
 split at h
 ·cases h
 split at h
 ·split at h
  ·injection h with h;subst h;exact ed_flt _ (by first|decide|assumption)
  ·cases h
 ·exact ed_two h
theorem lay_err {q:Except Ed Vl}{A:Nat}(h:layM s A q=.error e):q=.error e:=by
 cases q with
 |error x=>injection h with h;subst h;rfl
 |ok v=>cases h
theorem ed_made {op m:Int}{v u:Vl}(h:madeR op m v u=.error e):EdOk e:=by
 unfold madeR at h
 repeat' split at h
 all_goals first
  |(injection h with h;subst h;exact ed_flt _ (by first|decide|assumption))
  |cases h
theorem ed_der {op m:Int}{v u:Vl}(h:derR op m v u=.error e):EdOk e:=by
 unfold derR at h
 cases hq:madeR op m v u with
 |error x=>rw[hq]at h;injection h with h;subst h;exact ed_made hq
 |ok r=>
  rw[hq]at h;simp only at h
  split at h
  ·cases h
  ·injection h with h;subst h;exact ed_flt _ (by first|decide|assumption)
theorem ed_ask {op:Int}{v u:Vl}(h:askR op v u=.error e):EdOk e:=by
 unfold askR at h
 split at h
 ·cases h
 split at h
 ·cases h
 split at h
 ·cases h
 ·injection h with h;subst h;exact ed_flt _ (by first|decide|assumption)
theorem ed_plc {m sz p:Int}{v:Vl}(h:plcR m sz p v=.error e):EdOk e:=by
 unfold plcR at h
 split at h
 ·split at h
  ·cases h
  ·injection h with h;subst h;exact ed_flt _ (by first|decide|assumption)
 ·injection h with h;subst h;exact ed_flt _ (by first|decide|assumption)
theorem ed_gran {m p:Int}{v:Vl}(h:granR m p v=.error e):EdOk e:=by
 unfold granR at h
 cases hq:plcR m 16 p v with
 |error x=>rw[hq]at h;injection h with h;subst h;exact ed_plc hq
 |ok n=>
  rw[hq]at h;simp only at h
  split at h
  ·cases h
  ·injection h with h;subst h;exact ed_flt _ (by first|decide|assumption)
theorem ed_load {A B sz:Nat}{m:Int}(h:loadM s A B m sz=.error e):EdOk e:=by
 unfold loadM at h
 split at h
 ·rename_i x hq;injection h with h;subst h;exact ed_plc hq
 ·split at h
  ·cases h
  ·injection h with h;subst h;exact ed_flt _ (by first|decide|assumption)
theorem ed_store {A B sz:Nat}{m:Int}(h:storeM s A B m sz=.error e):EdOk e:=by
 unfold storeM at h
 split at h
 ·injection h with h;subst h;exact ed_flt _ (by first|decide|assumption)
 ·split at h
  ·rename_i x hq;injection h with h;subst h;exact ed_plc hq
  ·split at h
   ·cases h
   ·injection h with h;subst h;exact ed_flt _ (by first|decide|assumption)
theorem ed_touch {op m:Int}{A B:Nat}(h:touM s op A B m=.error e):EdOk e:=by
 unfold touM at h
 split at h
 ·exact ed_load h
 split at h
 ·exact ed_load h
 split at h
 ·exact ed_store h
 split at h
 ·exact ed_store h
 split at h
 ·unfold ldcM at h
  split at h
  ·rename_i x hq;injection h with h;subst h;exact ed_gran hq
  ·split at h
   ·cases h
   ·injection h with h;subst h;exact ed_flt _ (by first|decide|assumption)
 ·unfold stcM at h
  split at h
  ·rename_i x hq;injection h with h;subst h;exact ed_gran hq
  ·split at h
   ·cases h
   ·injection h with h;subst h;exact ed_flt _ (by first|decide|assumption)
theorem ed_hol {op m:Int}{v:Vl}(h:holR op m v=.error e):EdOk e:=by
 unfold holR at h
 split at h
 ·split at h
  ·injection h with h;subst h;exact ed_flt _ (by first|decide|assumption)
  ·cases h
 split at h
 ·split at h
  ·injection h with h;subst h;exact ed_flt _ (by first|decide|assumption)
  ·cases h
 split at h
 ·cases h
 split at h
 ·split at h
  ·cases h
  ·split at h
   ·cases h
   ·cases h
 ·injection h with h;subst h;exact ed_flt _ (by first|decide|assumption)
theorem ed_tgt {k:Nat}{v:Vl}(h:tgtR P k v=.error e):EdOk e:=by
 unfold tgtR at h
 split at h
 ·split at h
  ·split at h
   ·cases h
   ·injection h with h;subst h;exact ed_flt _ (by first|decide|assumption)
  ·injection h with h;subst h;exact ed_flt _ (by first|decide|assumption)
 ·injection h with h;subst h;exact ed_flt _ (by first|decide|assumption)
theorem ed_lit {a b:Int}(h:a≠0∧a≠4∧a≠7):EdOk ⟨a,b,0⟩:=⟨h.1,h.2.1,fun q=>absurd rfl q,fun q=>absurd q h.2.2⟩
theorem step_end (h:stepM P s=.error e):EdOk e:=by
 unfold stepM at h
 split at h
 ·injection h with h;subst h;exact ed_flt _ (by first|decide|assumption)
 ·rename_i i _
  unfold insM at h
  split at h
  ·exact ed_rec (lay_err h)
  split at h
  ·unfold strM at h
   split at h
   ·cases h
   split at h
   ·unfold braM at h
    split at h
    ·injection h with h;subst h;exact ed_flt _ (by first|decide|assumption)
    ·split at h
     ·injection h with h;subst h;exact ed_flt _ (by first|decide|assumption)
     ·cases h
   split at h
   ·cases h
   split at h
   ·unfold goR at h
    split at h
    ·cases h
    ·rename_i x hq;injection h with h;subst h;exact ed_tgt hq
   split at h
   ·unfold haltM at h
    split at h
    ·injection h with h;subst h;exact ed_flt _ (by first|decide|assumption)
    ·injection h with h;subst h;exact ed_lit (by decide)
   split at h
   ·injection h with h;subst h;exact ed_lit (by decide)
   split at h
   ·unfold inM at h
    split at h
    ·injection h with h;subst h;exact ed_lit (by decide)
    ·cases h
   split at h
   ·unfold outM at h
    split at h
    ·injection h with h;subst h;exact ed_flt _ (by first|decide|assumption)
    ·cases h
   split at h
   ·unfold callM at h
    split at h
    ·split at h
     ·injection h with h;subst h;exact ed_lit (by decide)
     ·cases h
    ·injection h with h;subst h;exact ed_flt _ (by first|decide|assumption)
   ·unfold retM at h
    split at h
    ·split at h
     ·injection h with h;subst h;exact ed_lit (by decide)
     ·cases h
    ·injection h with h;subst h;exact ed_flt _ (by first|decide|assumption)
  split at h
  ·have h1:=lay_err h;unfold capV at h1
   split at h1
   ·cases h1
   ·rename_i x hq;injection h1 with h1;subst h1;exact ed_der hq
  split at h
  ·have h1:=lay_err h;unfold nmbV at h1
   split at h1
   ·cases h1
   ·rename_i x hq;injection h1 with h1;subst h1;exact ed_ask hq
  split at h
  ·exact ed_touch h
  ·unfold grdR at h
   split at h
   ·rename_i x hq;injection h with h;subst h;exact ed_hol hq
   ·cases h
   ·injection h with h;subst h;exact ed_lit (by decide)
structure Alone (s s':Ms)(A:Nat):Prop where
 gate:s'.at_.gate=s.at_.gate
 st:s'.st=s.st
 regs:∀k,k≠A→s'.at_.regs k=s.at_.regs k
theorem al_lay {A:Nat}{v:Vl}:Alone s (s.put A v).next A:=⟨rfl,rfl,fun _ h=>upd_ne h⟩
theorem step_alone {i:Ins}(hi:(codeOf P (kOf P s.at_.gate))[s.at_.pc]?=some i)(hc:i.op≠31)(hr:20≤i.op→i.op≤32→i.op≠32)(h:stepM P s=.ok s'):Alone s s' i.a.toNat:=by
 unfold stepM at h;rw[hi]at h;simp only at h;unfold insM at h
 split at h
 ·obtain⟨v,_,rfl⟩:=lay_ok h;exact al_lay
 split at h
 ·unfold strM at h
  split at h
  ·injection h with h;subst h;exact⟨rfl,rfl,fun _ _=>rfl⟩
  split at h
  ·unfold braM at h
   split at h
   ·cases h
   ·split at h
    ·cases h
    ·injection h with h;subst h;split<;>exact⟨rfl,rfl,fun _ _=>rfl⟩
  split at h
  ·injection h with h;subst h;exact al_lay
  split at h
  ·unfold goR at h
   split at h
   ·injection h with h;subst h;exact⟨rfl,rfl,fun _ _=>rfl⟩
   ·cases h
  split at h
  ·unfold haltM at h
   split at h<;>cases h
  split at h
  ·cases h
  split at h
  ·unfold inM at h
   split at h
   ·cases h
   ·injection h with h;subst h;exact⟨rfl,rfl,fun _ h=>upd_ne h⟩
  split at h
  ·unfold outM at h
   split at h
   ·cases h
   ·injection h with h;subst h;exact⟨rfl,rfl,fun _ _=>rfl⟩
  exfalso
  have:=hr (by omega) (by omega);omega
 split at h
 ·obtain⟨v,_,rfl⟩:=lay_ok h;exact al_lay
 split at h
 ·obtain⟨v,_,rfl⟩:=lay_ok h;exact al_lay
 split at h
 ·have l1:∀sz,loadM s i.a.toNat i.b.toNat i.m sz=.ok s'→Alone s s' i.a.toNat:=fun sz h=>by
   unfold loadM at h
   split at h
   ·cases h
   ·split at h
    ·injection h with h;subst h;exact⟨rfl,rfl,fun _ h=>upd_ne h⟩
    ·cases h
  have l2:∀sz,storeM s i.a.toNat i.b.toNat i.m sz=.ok s'→Alone s s' i.a.toNat:=fun sz h=>by
   unfold storeM at h
   split at h
   ·cases h
   ·split at h
    ·cases h
    ·split at h
     ·injection h with h;subst h;exact⟨rfl,rfl,fun _ _=>rfl⟩
     ·cases h
  unfold touM at h
  split at h
  ·exact l1 _ h
  split at h
  ·exact l1 _ h
  split at h
  ·exact l2 _ h
  split at h
  ·exact l2 _ h
  split at h
  ·unfold ldcM at h
   split at h
   ·cases h
   ·split at h
    ·injection h with h;subst h;exact⟨rfl,rfl,fun _ h=>upd_ne h⟩
    ·cases h
  ·unfold stcM at h
   split at h
   ·cases h
   ·split at h
    ·injection h with h;subst h;exact⟨rfl,rfl,fun _ _=>rfl⟩
    ·cases h
 ·unfold grdR at h
  split at h
  ·cases h
  ·injection h with h;subst h;exact⟨rfl,rfl,fun _ _=>rfl⟩
  ·cases h
theorem step_err (h:stepM P s=.error e):e.e≠0:=(step_end h).1
end
open T (Sep Ob Kp Mf TgIn boxOb Fm Tc Ed Vl Cp Bx tgOb mRow)
section
variable {P:PImg} {n:Nat} {s s':Ms} {e:Ed}
theorem Okm.more (h:Okm P n s)(k:Nat):Okm P (n+k) s:=⟨h.f,h.st,h.dp,h.inp,by have:=h.out;omega,by have:=h.tou;omega,h.t⟩
theorem Okm.ended (h:Okm P n s)(e:Ed):Okm P n (s.ended e):=⟨h.f,h.st,h.dp,h.inp,h.out,h.tou,h.t⟩
theorem okm_steps (hP:POk P):∀(k:Nat) {n:Nat} {s:Ms},Okm P n s→Okm P (n+k) (stepsM P k s)
 |0,_,_,h=>h
 |k+1,n,s,h=>by
  by_cases h0:s.over.e=0
  ·cases hq:stepM P s with
   |ok s'=>
    rw[stepsM_ok h0 hq];have:=okm_steps hP k (okm_step hP h hq)
    rwa [show n+1+k=n+(k+1)by omega]at this
   |error e=>
    rw[stepsM_err h0 hq];exact(h.more _).ended e
  ·rw[stepsM_end h0];exact h.more _
theorem stepsM_one (P:PImg):∀(j:Nat) (s:Ms),stepsM P 1 (stepsM P j s)=stepsM P (j+1) s
 |0,_=>rfl
 |j+1,s=>by
  by_cases h0:s.over.e=0
  ·cases hq:stepM P s with
   |ok s'=>rw[stepsM_ok h0 hq,stepsM_ok h0 hq];exact stepsM_one P j s'
   |error e=>
    rw[stepsM_err h0 hq,stepsM_err h0 hq];exact stepsM_end (show ¬e.e=0 from step_err hq) 1
  ·rw[stepsM_end h0,stepsM_end h0,stepsM_end h0]
theorem stepsM_over (P:PImg):∀(k j:Nat) (s:Ms),¬(stepsM P j s).over.e=0→stepsM P (j+k) s=stepsM P j s
 |0,_,_,_=>rfl
 |k+1,j,s,h=>by
  rw[←Nat.add_assoc,←stepsM_one,stepsM_over P k j s h];exact stepsM_end h 1
end
theorem step_oc (P:PImg)(hP:POk P)(s:Ms)(c:Nat)(hs:Okm P c s)(hn:c+1≤1000000)(t:Ms)(ht:stepsM P 1 s=t)(B:Nat)(W:World)(a:Nat)(l:List Ob)(h:MIn B W a P s l):
 Calls Tryz.prog 31 #[.pointer (some ⟨a,0,none⟩)] W fun x w'=>x=.returned (.agg #[.int .i64 t.over.e,.int .u64 t.over.v,.int .i64 t.over.f,.int .i64 t.at_.gate,.int .i64 t.at_.pc])∧MIn B w' a P t l∧Below B W w':=by
 rw[←ht];exact step_any B W a P s l c hP h hs hn
theorem run_oc (P:PImg)(hP:POk P)(s:Ms)(c n:Nat)(hs:Okm P c s)(hn:c+n≤1000000)(hn2:n≤100000)(t:Ms)(ht:runM P (n:Int) s=t)(B:Nat)(W:World)(a:Nat)(l:List Ob)(h:MIn B W a P s l):
 Calls Tryz.prog 10 #[.pointer (some ⟨a,0,none⟩),.int .i64 n] W fun x w'=>x=.returned (.agg #[.int .i64 t.over.e,.int .u64 t.over.v,.int .i64 t.over.f,.int .i64 t.at_.gate,.int .i64 t.at_.pc])∧MIn B w' a P t l∧Below B W w':=by
 rw[←ht];exact run_any B W a P s l c n hP h hs (by rw[show (min (n:Int) 100000).toNat=n by omega];exact hn)
def wO (s:Ms)(j:Nat):List Value:=if j=0 then [.int .i64 0,.int .u64 0,.int .i64 0,.int .i64 0,.int .i64 0]else tl s
theorem wO_succ (s:Ms)(j:Nat):wO s (j+1)=[.int .i64 s.over.e,.int .u64 s.over.v,.int .i64 s.over.f,.int .i64 s.at_.gate,.int .i64 s.at_.pc]:=rfl
theorem wO_len (s:Ms)(j:Nat):(wO s j).length=5:=by unfold wO;split<;>rfl
section
variable {P:PImg} {n:Nat} {s s':Ms}
def OnAt (L:List Ins)(op:Int)(p q:Nat):Prop:=(q=L.length∧p+1=L.length∧op≠20)∨F.folB L p q=true
theorem at_next {L:List Ins}{p:Nat}{i:Ins}(hi:L[p]?=some i)(hw:F.wayN i.op=0∨F.wayN i.op=2):OnAt L i.op p (p+1):=by
 have hp:p<L.length:=(List.getElem?_eq_some_iff.1 hi).1;have h20:i.op≠20:=fun q=>by rw[q]at hw;revert hw;decide
 by_cases hl:p+1<L.length
 ·right
  unfold F.folB;rw[hi];rcases hw with hw|hw<;>simp[hl,hw,F.wyF]
 ·exact .inl ⟨by omega,by omega,h20⟩
theorem at_to {L:List Ins}{p q:Nat}{i:Ins}(hi:L[p]?=some i)(hw:F.wayN i.op=1∨F.wayN i.op=2)(hq:(q:Int)=i.m)(hl:q<L.length):OnAt L i.op p q:=by
 right
 unfold F.folB;rw[hi];rcases hw with hw|hw<;>simp[hl,hw,F.wyF,hq]
theorem at_any {L:List Ins}{p q:Nat}{i:Ins}(hi:L[p]?=some i)(hw:F.wayN i.op=3)(hl:q<L.length):OnAt L i.op p q:=by
 right
 unfold F.folB;rw[hi];simp[hl,hw,F.wyF]
theorem way0 {op:Int}(h:op≤13∨op=25∨op=29∨op=30∨33≤op):F.wayN op=0:=by
 unfold F.wayN;rw[if_neg (by omega),if_neg (by omega),if_neg (by omega),if_neg (by omega)]
theorem way2 {op:Int}(h:21≤op∧op≤24):F.wayN op=2:=by
 unfold F.wayN;rw[if_neg (by omega),if_pos (by omega)]
theorem tgt_lt {k q:Nat}{v:Vl}(h:tgtR P k v=.ok q):q<(codeOf P k).length:=by
 unfold tgtR at h
 split at h
 ·split at h
  ·split at h
   ·rename_i z
    injection h with h
    have:=(wrap64_in (v.c.c - codeBase k)).1;unfold offC at z h;omega
   ·cases h
  ·cases h
 ·cases h
theorem step_flow (hP:POk P){i:Ins}(hi:(codeOf P (kOf P s.at_.gate))[s.at_.pc]?=some i)(hc:i.op≠31)(hr:i.op≠32)(h:stepM P s=.ok s'):OnAt (codeOf P (kOf P s.at_.gate)) i.op s.at_.pc s'.at_.pc:=by
 have hio:=(hP.code (kOf P s.at_.gate)).2 i (List.mem_of_getElem? hi);have hop:=hio.op;unfold stepM at h;rw[hi]at h;simp only at h;unfold insM at h
 split at h
 ·obtain⟨v,_,rfl⟩:=lay_ok h;exact at_next hi (.inl (way0 (by omega)))
 split at h
 ·unfold strM at h
  split at h
  ·rename_i q
   injection h with h;subst h
   have:=hio.tg (by omega);exact at_to hi (.inl (by rw[q];decide)) (show((i.m.toNat:Nat):Int)=i.m by omega) (show i.m.toNat<_ by omega)
  split at h
  ·have hb:21≤i.op∧i.op≤24:=by omega
   have:=hio.tg (by omega);unfold braM at h
   split at h
   ·cases h
   ·split at h
    ·cases h
    ·injection h with h;subst h;split
     ·exact at_to hi (.inr (way2 hb)) (show((i.m.toNat:Nat):Int)=i.m by omega) (show i.m.toNat<_ by omega)
     ·exact at_next hi (.inr (way2 hb))
  split at h
  ·injection h with h;subst h;exact at_next hi (.inl (way0 (by omega)))
  split at h
  ·rename_i q
   unfold goR at h
   split at h
   ·rename_i k hk
    injection h with h;subst h;exact at_any hi (by rw[q];decide) (tgt_lt hk)
   ·cases h
  split at h
  ·unfold haltM at h
   split at h<;>cases h
  split at h
  ·cases h
  split at h
  ·unfold inM at h
   split at h
   ·cases h
   ·injection h with h;subst h;exact at_next hi (.inl (way0 (by omega)))
  split at h
  ·unfold outM at h
   split at h
   ·cases h
   ·injection h with h;subst h;exact at_next hi (.inl (way0 (by omega)))
  exfalso
  omega
 have hw:F.wayN i.op=0:=way0 (by omega)
 split at h
 ·obtain⟨v,_,rfl⟩:=lay_ok h;exact at_next hi (.inl hw)
 split at h
 ·obtain⟨v,_,rfl⟩:=lay_ok h;exact at_next hi (.inl hw)
 split at h
 ·have l1:∀sz,loadM s i.a.toNat i.b.toNat i.m sz=.ok s'→s'.at_.pc=s.at_.pc+1:=fun sz h=>by
   unfold loadM at h
   split at h
   ·cases h
   ·split at h
    ·injection h with h;subst h;rfl
    ·cases h
  have l2:∀sz,storeM s i.a.toNat i.b.toNat i.m sz=.ok s'→s'.at_.pc=s.at_.pc+1:=fun sz h=>by
   unfold storeM at h
   split at h
   ·cases h
   ·split at h
    ·cases h
    ·split at h
     ·injection h with h;subst h;rfl
     ·cases h
  have l3:s'.at_.pc=s.at_.pc+1:=by
   unfold touM at h
   split at h
   ·exact l1 _ h
   split at h
   ·exact l1 _ h
   split at h
   ·exact l2 _ h
   split at h
   ·exact l2 _ h
   split at h
   ·unfold ldcM at h
    split at h
    ·cases h
    ·split at h
     ·injection h with h;subst h;rfl
     ·cases h
   ·unfold stcM at h
    split at h
    ·cases h
    ·split at h
     ·injection h with h;subst h;rfl
     ·cases h
  rw[l3];exact at_next hi (.inl hw)
 ·unfold grdR at h
  split at h
  ·cases h
  ·injection h with h;subst h;exact at_next hi (.inl hw)
  ·cases h
end
end C
end Go.Proofs.YthlpjlnehonpdaaGreatDoor
