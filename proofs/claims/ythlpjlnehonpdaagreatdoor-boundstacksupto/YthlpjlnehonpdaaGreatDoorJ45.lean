import Derived.Test.YthlpjlnehonpdaaGreatDoorJ05
import Derived.Test.YthlpjlnehonpdaaGreatDoorJ44
namespace Go.Proofs.YthlpjlnehonpdaaGreatDoor
namespace Q
open Go.RowKit
theorem elem_atL {α:Type}{f:α→List Value}{k:Nat}(hf:∀x,(f x).length=k){w:World}{b:Nat}{L:List α}(h:At w b (rowV [] f L).toArray)(i:Nat)(v:α)(hv:L[i]?=some v):w.rangeAt b (i*k) (f v):=by
 obtain⟨hi,rfl⟩:=List.getElem?_eq_some_iff.1 hv;exact h.elem (pre:=[]) hf i hi (i*k) (by simp)
theorem marked_atL {α:Type}{M:α}{L:List α}(i:Nat)(hi:i<L.length):(marked M L)[i]?=some L[i]:=by
 unfold marked;rw[List.getElem?_append_left hi,List.getElem?_eq_getElem hi]
theorem LsOk.finL {α:Type}{vals:α→List Value}{M:α}{kk k:Nat}{W:World}{L:List α}{s:Sl}(hk:∀x,(vals x).length=k)(h:LsOk vals M kk W L s):FIn k vals W.heap.size W s.a L:=by
 obtain⟨g,rfl,_,hA⟩:=h;intro i hi;refine⟨g,0,rfl,hA.1,hA.1,fun j hj=>?_⟩;have hj':j<(vals L[i]).length:=by rw[hk];exact hj
 rw[List.getElem?_eq_getElem hj',Nat.zero_add];exact elem_atL hk hA i _ (marked_atL i hi) j _ (List.getElem?_eq_getElem hj')
theorem LsOk.linL {M:Ins}{kk:Nat}{W:World}{L:List Ins}{s:Sl}(h:LsOk Ins.vals M kk W L s):LIn W.heap.size W s.a L:=by
 obtain⟨g,rfl,_,hA⟩:=h;intro i hi;have q:=elem_atL (k:=5) (fun _=>rfl) hA i _ (marked_atL i hi);refine⟨g,0,rfl,hA.1,hA.1,?_⟩;rw[Nat.zero_add];exact⟨q 0 _ rfl,q 1 _ rfl,q 2 _ rfl,q 3 _ rfl,q 4 _ rfl⟩
theorem LsOk.lenL {α:Type}{vals:α→List Value}{M:α}{kk:Nat}{W:World}{L:List α}{s:Sl}(h:LsOk vals M kk W L s):s.l=L.length:=by
 obtain⟨g,rfl,_,_⟩:=h
 rfl
end Q
namespace C
open Go.RowKit
open T (Sep Ob Kp Mf TgIn boxOb Fm Tc Ed Vl Cp Bx tgOb mRow updV flt)
def entN (A:List Nat)(n:Nat):List Nat:=(List.range n).map fun i=>A.getD i i
theorem entN_len (A:List Nat)(n:Nat):(entN A n).length=n:=by simp[entN]
theorem entN_succ (A:List Nat)(n:Nat):entN A (n+1)=entN A n++[A.getD n n]:=by simp[entN,List.range_succ]
def uN (x:Nat):Value:=.int .u64 (x:Int)
theorem own_numin {w:World}{lo:Nat}{v:Value}{L:List Nat}(h:w.ownsRow lo 25 1 v L.length (L.map uN)):∃va c,v=.slice va L.length c∧NumIn w va L:=by
 have hlt:=h.lt;rcases h.2 with⟨rfl,h9⟩|⟨g,cap,cur,rfl,hb,hg,hc1,hc2,hc3,hc4⟩
 ·exact⟨none,0,by rw[h9],fun i hi=>by omega⟩
 ·refine⟨_,cap,rfl,fun i hi=>⟨g,0,rfl,(hlt g rfl).2,?_⟩⟩;have:w.cell? ⟨g,0+i,none⟩=cur[i]?:=by simp[World.cell?,hg]
  rw[this];have h2:(L.map uN)[i]?=some (.int .u64 L[i]):=by simp[hi,uN]
  rw[←hc4,List.getElem?_take_of_lt (by omega)]at h2;rw[←h2];simp
theorem TabIn.bl {w W:World}(h:TabIn w)(g:Bl w W):TabIn W:=h.below g h.size
theorem ents_lt (A:List Nat)(n:Nat)(hA:∀x∈A,x<18446744073709551616)(hn:n≤1000):∀x∈entN A n,x<18446744073709551616:=fun x hx=>by
 obtain⟨i,hi,rfl⟩:=List.mem_map.1 hx;have hi':i<n:=List.mem_range.1 hi;by_cases h:i<A.length
 ·have e:A.getD i i=A[i]:=by simp[h]
  rw[e];exact hA _ (List.getElem_mem h)
 ·have e:A.getD i i=i:=by simp[h]
  omega
theorem own_numn {w:World}{lo n:Nat}{v:Value}{L:List Nat}(hl:L.length=n)(h:w.ownsRow lo 25 1 v n (L.map uN)):∃va c,v=.slice va n c∧NumIn w va L:=by
 subst hl;exact own_numin h
theorem eq_len {m:PImg}{g:Nat}(hg:g<m.gates.length)(A:List Nat):(entN A m.gates[g].args.length).length=(argsOf m g).length:=by rw[entN_len,argsOf_at m g hg]
open T (Sep Ob Kp Mf TgIn boxOb Fm Tc Ed Vl Cp Bx tgOb mRow updV flt ofI)
def EdOk (e:Ed):Prop:=e.e≠0∧e.e≠4∧(e.f≠0↔e.e=7)
theorem ed_flt (f:Int)(hf:f≠0):EdOk (flt f):=⟨by show(7:Int)≠0;decide,by show(7:Int)≠4;decide,fun _=>rfl,fun _=>hf⟩
theorem upd_ne {r:Nat→Vl}{i k:Nat}{v:Vl}(h:k≠i):updV r i v k=r k:=by unfold updV;rw[if_neg h]
section
variable {P:PImg} {s s':Ms} {e:Ed}
theorem ed_two {op:Int}{v u:Vl}(h:twoR op v u=.error e):EdOk e:=by
 unfold twoR at h
 split at h
 ·injection h with h;subst h;exact ed_flt _ (by first|decide|assumption)
 ·split at h
  ·injection h with h;subst h;exact ed_flt _ (by first|decide|assumption)
  ·cases h
theorem ed_rec {op m:Int}{B C:Nat}(h:recM s op B C m=.error e):EdOk e:=by
 unfold recM at h
 split at h
 ·cases h
 split at h
 ·cases h
 split at h
 ·split at h
  ·injection h with h;subst h;exact ed_flt _ (by first|decide|assumption)
  ·cases h
 ·exact ed_two h
theorem lay_err {q:Except Ed Vl}{A:Nat}(h:layM s A q=.error e):q=.error e:=by
 cases q with
 |error x=>injection h with h;subst h;rfl
 |ok v=>cases h
theorem ed_made {op m:Int}{v u:Vl}(h:madeR op m v u=.error e):EdOk e:=by
 unfold madeR at h
 repeat' split at h
 all_goals first
  |(injection h with h;subst h;exact ed_flt _ (by first|decide|assumption))
  |cases h
theorem ed_der {op m:Int}{v u:Vl}(h:derR op m v u=.error e):EdOk e:=by
 unfold derR at h
 cases hq:madeR op m v u with
 |error x=>rw[hq]at h;injection h with h;subst h;exact ed_made hq
 |ok r=>
  rw[hq]at h;simp only at h
  split at h
  ·cases h
  ·injection h with h;subst h;exact ed_flt _ (by first|decide|assumption)
theorem ed_ask {op:Int}{v u:Vl}(h:askR op v u=.error e):EdOk e:=by
 unfold askR at h
 split at h
 ·cases h
 split at h
 ·cases h
 split at h
 ·cases h
 ·injection h with h;subst h;exact ed_flt _ (by first|decide|assumption)
theorem ed_plc {m sz p:Int}{v:Vl}(h:plcR m sz p v=.error e):EdOk e:=by
 unfold plcR at h
 split at h
 ·split at h
  ·cases h
  ·injection h with h;subst h;exact ed_flt _ (by first|decide|assumption)
 ·injection h with h;subst h;exact ed_flt _ (by first|decide|assumption)
theorem ed_gran {m p:Int}{v:Vl}(h:granR m p v=.error e):EdOk e:=by
 unfold granR at h
 cases hq:plcR m 16 p v with
 |error x=>rw[hq]at h;injection h with h;subst h;exact ed_plc hq
 |ok n=>
  rw[hq]at h;simp only at h
  split at h
  ·cases h
  ·injection h with h;subst h;exact ed_flt _ (by first|decide|assumption)
theorem ed_load {A B sz:Nat}{m:Int}(h:loadM s A B m sz=.error e):EdOk e:=by
 unfold loadM at h
 split at h
 ·rename_i x hq;injection h with h;subst h;exact ed_plc hq
 ·split at h
  ·cases h
  ·injection h with h;subst h;exact ed_flt _ (by first|decide|assumption)
theorem ed_store {A B sz:Nat}{m:Int}(h:storeM s A B m sz=.error e):EdOk e:=by
 unfold storeM at h
 split at h
 ·injection h with h;subst h;exact ed_flt _ (by first|decide|assumption)
 ·split at h
  ·rename_i x hq;injection h with h;subst h;exact ed_plc hq
  ·split at h
   ·cases h
   ·injection h with h;subst h;exact ed_flt _ (by first|decide|assumption)
theorem ed_touch {op m:Int}{A B:Nat}(h:touM s op A B m=.error e):EdOk e:=by
 unfold touM at h
 split at h
 ·exact ed_load h
 split at h
 ·exact ed_load h
 split at h
 ·exact ed_store h
 split at h
 ·exact ed_store h
 split at h
 ·unfold ldcM at h
  split at h
  ·rename_i x hq;injection h with h;subst h;exact ed_gran hq
  ·split at h
   ·cases h
   ·injection h with h;subst h;exact ed_flt _ (by first|decide|assumption)
 ·unfold stcM at h
  split at h
  ·rename_i x hq;injection h with h;subst h;exact ed_gran hq
  ·split at h
   ·cases h
   ·injection h with h;subst h;exact ed_flt _ (by first|decide|assumption)
theorem ed_hol {op m:Int}{v:Vl}(h:holR op m v=.error e):EdOk e:=by
 unfold holR at h
 split at h
 ·split at h
  ·injection h with h;subst h;exact ed_flt _ (by first|decide|assumption)
  ·cases h
 split at h
 ·split at h
  ·injection h with h;subst h;exact ed_flt _ (by first|decide|assumption)
  ·cases h
 split at h
 ·cases h
 split at h
 ·split at h
  ·cases h
  ·split at h
   ·cases h
   ·cases h
 ·injection h with h;subst h;exact ed_flt _ (by first|decide|assumption)
theorem ed_tgt {k:Nat}{v:Vl}(h:tgtR P k v=.error e):EdOk e:=by
 unfold tgtR at h
 split at h
 ·split at h
  ·split at h
   ·cases h
   ·injection h with h;subst h;exact ed_flt _ (by first|decide|assumption)
  ·injection h with h;subst h;exact ed_flt _ (by first|decide|assumption)
 ·injection h with h;subst h;exact ed_flt _ (by first|decide|assumption)
theorem ed_lit {a b:Int}(h:a≠0∧a≠4∧a≠7):EdOk ⟨a,b,0⟩:=⟨h.1,h.2.1,fun q=>absurd rfl q,fun q=>absurd q h.2.2⟩
theorem step_end (h:stepM P s=.error e):EdOk e:=by
 unfold stepM at h
 split at h
 ·injection h with h;subst h;exact ed_flt _ (by first|decide|assumption)
 ·rename_i i _
  unfold insM at h
  split at h
  ·exact ed_rec (lay_err h)
  split at h
  ·unfold strM at h
   split at h
   ·cases h
   split at h
   ·unfold braM at h
    split at h
    ·injection h with h;subst h;exact ed_flt _ (by first|decide|assumption)
    ·split at h
     ·injection h with h;subst h;exact ed_flt _ (by first|decide|assumption)
     ·cases h
   split at h
   ·cases h
   split at h
   ·unfold goR at h
    split at h
    ·cases h
    ·rename_i x hq;injection h with h;subst h;exact ed_tgt hq
   split at h
   ·unfold haltM at h
    split at h
    ·injection h with h;subst h;exact ed_flt _ (by first|decide|assumption)
    ·injection h with h;subst h;exact ed_lit (by decide)
   split at h
   ·injection h with h;subst h;exact ed_lit (by decide)
   split at h
   ·unfold inM at h
    split at h
    ·injection h with h;subst h;exact ed_lit (by decide)
    ·cases h
   split at h
   ·unfold outM at h
    split at h
    ·injection h with h;subst h;exact ed_flt _ (by first|decide|assumption)
    ·cases h
   split at h
   ·unfold callM at h
    split at h
    ·split at h
     ·injection h with h;subst h;exact ed_lit (by decide)
     ·cases h
    ·injection h with h;subst h;exact ed_flt _ (by first|decide|assumption)
   ·unfold retM at h
    split at h
    ·split at h
     ·injection h with h;subst h;exact ed_lit (by decide)
     ·cases h
    ·injection h with h;subst h;exact ed_flt _ (by first|decide|assumption)
  split at h
  ·have h1:=lay_err h;unfold capV at h1
   split at h1
   ·cases h1
   ·rename_i x hq;injection h1 with h1;subst h1;exact ed_der hq
  split at h
  ·have h1:=lay_err h;unfold nmbV at h1
   split at h1
   ·cases h1
   ·rename_i x hq;injection h1 with h1;subst h1;exact ed_ask hq
  split at h
  ·exact ed_touch h
  ·unfold grdR at h
   split at h
   ·rename_i x hq;injection h with h;subst h;exact ed_hol hq
   ·cases h
   ·injection h with h;subst h;exact ed_lit (by decide)
structure Alone (s s':Ms)(A:Nat):Prop where
 gate:s'.at_.gate=s.at_.gate
 st:s'.st=s.st
 regs:∀k,k≠A→s'.at_.regs k=s.at_.regs k
theorem al_lay {A:Nat}{v:Vl}:Alone s (s.put A v).next A:=⟨rfl,rfl,fun _ h=>upd_ne h⟩
theorem step_alone {i:Ins}(hi:(codeOf P (kOf P s.at_.gate))[s.at_.pc]?=some i)(hc:i.op≠31)(hr:20≤i.op→i.op≤32→i.op≠32)(h:stepM P s=.ok s'):Alone s s' i.a.toNat:=by
 unfold stepM at h;rw[hi]at h;simp only at h;unfold insM at h
 split at h
 ·obtain⟨v,_,rfl⟩:=lay_ok h;exact al_lay
 split at h
 ·unfold strM at h
  split at h
  ·injection h with h;subst h;exact⟨rfl,rfl,fun _ _=>rfl⟩
  split at h
  ·unfold braM at h
   split at h
   ·cases h
   ·split at h
    ·cases h
    ·injection h with h;subst h;split<;>exact⟨rfl,rfl,fun _ _=>rfl⟩
  split at h
  ·injection h with h;subst h;exact al_lay
  split at h
  ·unfold goR at h
   split at h
   ·injection h with h;subst h;exact⟨rfl,rfl,fun _ _=>rfl⟩
   ·cases h
  split at h
  ·unfold haltM at h
   split at h<;>cases h
  split at h
  ·cases h
  split at h
  ·unfold inM at h
   split at h
   ·cases h
   ·injection h with h;subst h;exact⟨rfl,rfl,fun _ h=>upd_ne h⟩
  split at h
  ·unfold outM at h
   split at h
   ·cases h
   ·injection h with h;subst h;exact⟨rfl,rfl,fun _ _=>rfl⟩
  exfalso
  have:=hr (by omega) (by omega);omega
 split at h
 ·obtain⟨v,_,rfl⟩:=lay_ok h;exact al_lay
 split at h
 ·obtain⟨v,_,rfl⟩:=lay_ok h;exact al_lay
 split at h
 ·have l1:∀sz,loadM s i.a.toNat i.b.toNat i.m sz=.ok s'→Alone s s' i.a.toNat:=fun sz h=>by
   unfold loadM at h
   split at h
   ·cases h
   ·split at h
    ·injection h with h;subst h;exact⟨rfl,rfl,fun _ h=>upd_ne h⟩
    ·cases h
  have l2:∀sz,storeM s i.a.toNat i.b.toNat i.m sz=.ok s'→Alone s s' i.a.toNat:=fun sz h=>by
   unfold storeM at h
   split at h
   ·cases h
   ·split at h
    ·cases h
    ·split at h
     ·injection h with h;subst h;exact⟨rfl,rfl,fun _ _=>rfl⟩
     ·cases h
  unfold touM at h
  split at h
  ·exact l1 _ h
  split at h
  ·exact l1 _ h
  split at h
  ·exact l2 _ h
  split at h
  ·exact l2 _ h
  split at h
  ·unfold ldcM at h
   split at h
   ·cases h
   ·split at h
    ·injection h with h;subst h;exact⟨rfl,rfl,fun _ h=>upd_ne h⟩
    ·cases h
  ·unfold stcM at h
   split at h
   ·cases h
   ·split at h
    ·injection h with h;subst h;exact⟨rfl,rfl,fun _ _=>rfl⟩
    ·cases h
 ·unfold grdR at h
  split at h
  ·cases h
  ·injection h with h;subst h;exact⟨rfl,rfl,fun _ _=>rfl⟩
  ·cases h
theorem step_err (h:stepM P s=.error e):e.e≠0:=(step_end h).1
end
end C
end Go.Proofs.YthlpjlnehonpdaaGreatDoor
