import Derived.Test.YtkhbiaaangnkdaaGreatDoorJ07
namespace Go.Proofs.YtkhbiaaangnkdaaGreatDoor
set_option maxRecDepth 100000
set_option maxHeartbeats 40000000
namespace F
open Go.RowKit
open T
theorem sorted_ext:∀l1 l2:List Int,l1.Pairwise (·<·)→l2.Pairwise (·<·)→(∀x,x∈l1↔x∈l2)→l1=l2
 |[],[],_,_,_=>rfl
 |[],b::l2,_,_,h=>by have:=(h b).2 (by simp);simp at this
 |a::l1,[],_,_,h=>by have:=(h a).1 (by simp);simp at this
 |a::l1,b::l2,h1,h2,h=>by
  rw[List.pairwise_cons]at h1 h2;have e:a=b:=by
   have q1:=(h a).1 (by simp);have q2:=(h b).2 (by simp);rcases List.mem_cons.1 q1 with r|r
   ·exact r
   ·rcases List.mem_cons.1 q2 with t|t
    ·exact t.symm
    ·have a1:=h2.1 a r;have a2:=h1.1 b t;omega
  subst e;have:l1=l2:=sorted_ext l1 l2 h1.2 h2.2 (fun x=>by
   have hx:=h x
   constructor
   ·intro r;rcases List.mem_cons.1 (hx.1 (by simp[r]))with t|t
    ·subst t;have:=h1.1 x r;omega
    ·exact t
   ·intro r;rcases List.mem_cons.1 (hx.2 (by simp[r]))with t|t
    ·subst t;have:=h2.1 x r;omega
    ·exact t)
  rw[this]
def nxtI (L:List Ins)(pc:Int):List Int:=if thB L.length pc=true then((List.range L.length).filter (folB L pc.toNat)).map (fun q:Nat=>(q:Int))else []
theorem nxt_sorted (L:List Ins)(pc:Int):(nxtI L pc).Pairwise (·<·):=by
 unfold nxtI
 split
 ·rw[List.pairwise_map];exact(List.pairwise_lt_range.filter _).imp (fun h=>by omega)
 ·exact List.Pairwise.nil
theorem mem_nxt {L:List Ins}{p:Nat}(hp:p<L.length)(x:Int):x∈nxtI L p↔∃q:Nat,x=q∧folB L p q=true:=by
 unfold nxtI;rw[if_pos (thB_nat.2 hp)];simp only[List.mem_map,List.mem_filter,List.mem_range,Int.toNat_natCast]
 constructor
 ·rintro⟨q,⟨_,h⟩,rfl⟩;exact⟨q,rfl,h⟩
 ·rintro⟨q,rfl,h⟩;exact⟨q,⟨folB_lt h,h⟩,rfl⟩
def ddS (n:Nat)(l:List Int)(x:Int):List Int:=if thB n x=true∧memB l x=false then l++[x]else l
def ddF (n:Nat)(N:List Int):List Int:=N.foldl (ddS n) []
theorem dd_len (n:Nat):∀(N l:List Int),(N.foldl (ddS n) l).length≤l.length+N.length
 |[],l=>by simp
 |x::N,l=>by
  have:=dd_len n N (ddS n l x);have h2:(ddS n l x).length≤l.length+1:=by unfold ddS;split<;>simp
  simp only[List.foldl_cons,List.length_cons];omega
theorem dd_take (n:Nat)(N:List Int)(j:Nat)(hj:j<N.length):ddF n (N.take (j+1))=ddS n (ddF n (N.take j)) N[j]:=by
 unfold ddF;rw[List.take_add_one,List.getElem?_eq_getElem hj,Option.toList_some,List.foldl_append]
 rfl
theorem mem1 (z x:Int):z∈[x]↔z=x:=by simp
theorem mem2 (z x y:Int):z∈[x,y]↔z=x∨z=y:=by simp
theorem pw1 (x:Int):[x].Pairwise (·<·):=List.pairwise_singleton _ _
theorem pw2 (x y:Int)(h:x<y):[x,y].Pairwise (·<·):=by simpa using h
theorem dd_one (n:Nat)(x:Int):(srt (ddF n [x])).Pairwise (·<·)∧∀z,z∈srt (ddF n [x])↔thB n z=true∧z=x:=by
 by_cases h:thB n x=true
 ·have e:srt (ddF n [x])=[x]:=by simp[ddF,ddS,memB,h,srt]
  rw[e];refine⟨pw1 x,fun z=>?_⟩;rw[mem1];exact⟨fun r=>⟨r▸h,r⟩,fun r=>r.2⟩
 ·have e:srt (ddF n [x])=[]:=by simp[ddF,ddS,h,srt]
  rw[e];refine⟨List.Pairwise.nil,fun z=>?_⟩;exact⟨fun r=>by simp at r,fun r=>absurd (r.2▸r.1) h⟩
theorem dd_two (n:Nat)(x y:Int):(srt (ddF n [x,y])).Pairwise (·<·)∧∀z,z∈srt (ddF n [x,y])↔thB n z=true∧(z=x∨z=y):=by
 by_cases hx:thB n x=true<;>by_cases hy:thB n y=true
 ·by_cases e:y=x
  ·have e:srt (ddF n [x,y])=[x]:=by simp[ddF,ddS,memB,hx,e,srt]
   rw[e];refine⟨pw1 x,fun z=>?_⟩;rw[mem1];exact⟨fun r=>⟨r▸hx,.inl r⟩,fun r=>r.2.elim id (fun q=>by omega)⟩
  ·by_cases hlt:y<x
   ·have e:srt (ddF n [x,y])=[y,x]:=by simp[ddF,ddS,memB,hx,hy,e,srt,hlt]
    rw[e];refine⟨pw2 y x hlt,fun z=>?_⟩;rw[mem2];exact⟨fun r=>r.elim (fun q=>⟨q▸hy,.inr q⟩) (fun q=>⟨q▸hx,.inl q⟩),fun r=>r.2.elim .inr .inl⟩
   ·have e:srt (ddF n [x,y])=[x,y]:=by simp[ddF,ddS,memB,hx,hy,e,srt,hlt]
    rw[e];refine⟨pw2 x y (by omega),fun z=>?_⟩;rw[mem2];exact⟨fun r=>r.elim (fun q=>⟨q▸hx,.inl q⟩) (fun q=>⟨q▸hy,.inr q⟩),fun r=>r.2⟩
 ·have e:srt (ddF n [x,y])=[x]:=by simp[ddF,ddS,memB,hx,hy,srt]
  rw[e];refine⟨pw1 x,fun z=>?_⟩;rw[mem1];exact⟨fun r=>⟨r▸hx,.inl r⟩,fun r=>r.2.elim id (fun q=>absurd (q▸r.1) hy)⟩
 ·have e:srt (ddF n [x,y])=[y]:=by simp[ddF,ddS,memB,hx,hy,srt]
  rw[e];refine⟨pw1 y,fun z=>?_⟩;rw[mem1];exact⟨fun r=>⟨r▸hy,.inr r⟩,fun r=>r.2.elim (fun q=>absurd (q▸r.1) hx) id⟩
 ·have e:srt (ddF n [x,y])=[]:=by simp[ddF,ddS,hx,hy,srt]
  rw[e];refine⟨List.Pairwise.nil,fun z=>?_⟩;exact⟨fun r=>by simp at r,fun r=>r.2.elim (fun q=>absurd (q▸r.1) hx) (fun q=>absurd (q▸r.1) hy)⟩
theorem nxt_jump {L:List Ins}{p:Nat}(hp:p<L.length)(hw:wayN L[p].op=1):nxtI L p=srt (ddF L.length [L[p].m]):=
 sorted_ext _ _ (nxt_sorted L p) (dd_one _ _).1 (fun x=>by
  rw[mem_nxt hp,(dd_one _ _).2]
  constructor
  ·rintro⟨q,rfl,h⟩;rw[fol_jump hp hw]at h;simp at h;exact⟨thB_nat.2 h.1,h.2⟩
  ·rintro⟨h1,h2⟩;obtain⟨q,rfl,hq⟩:=thB_elim h1;exact⟨q,rfl,by rw[fol_jump hp hw];simp[hq,h2]⟩)
theorem nxt_next {L:List Ins}{p:Nat}(hp:p<L.length)(hw:wayN L[p].op=0):nxtI L p=srt (ddF L.length [(p:Int)+1]):=
 sorted_ext _ _ (nxt_sorted L p) (dd_one _ _).1 (fun x=>by
  rw[mem_nxt hp,(dd_one _ _).2]
  constructor
  ·rintro⟨q,rfl,h⟩;rw[fol_next hp hw]at h;simp at h;exact⟨thB_nat.2 h.1,by omega⟩
  ·rintro⟨h1,h2⟩;obtain⟨q,rfl,hq⟩:=thB_elim h1;exact⟨q,rfl,by rw[fol_next hp hw];simp[hq];omega⟩)
theorem nxt_branch {L:List Ins}{p:Nat}(hp:p<L.length)(hw:wayN L[p].op=2):nxtI L p=srt (ddF L.length [(p:Int)+1,L[p].m]):=
 sorted_ext _ _ (nxt_sorted L p) (dd_two _ _ _).1 (fun x=>by
  rw[mem_nxt hp,(dd_two _ _ _).2]
  constructor
  ·rintro⟨q,rfl,h⟩;rw[fol_branch hp hw]at h;simp at h;refine⟨thB_nat.2 h.1,?_⟩;rcases h.2 with r|r
   ·exact .inr r
   ·exact .inl (by omega)
  ·rintro⟨h1,h2⟩;obtain⟨q,rfl,hq⟩:=thB_elim h1;refine⟨q,rfl,?_⟩;rw[fol_branch hp hw];simp[hq];rcases h2 with r|r
   ·exact .inr (by omega)
   ·exact .inl r)
theorem nxt_ends {L:List Ins}{p:Nat}(hp:p<L.length)(hw:wayN L[p].op=4):nxtI L p=[]:=by
 unfold nxtI;rw[if_pos (thB_nat.2 hp),List.map_eq_nil_iff,List.filter_eq_nil_iff];intro q _;simp[folB,hp,wyF,hw]
theorem nxt_all {L:List Ins}{p:Nat}(hp:p<L.length)(hw:wayN L[p].op=3):nxtI L p=(List.range L.length).map (fun q:Nat=>(q:Int)):=by
 unfold nxtI;rw[if_pos (thB_nat.2 hp)]
 congr 1
 rw[List.filter_eq_self];intro q hq;have:=List.mem_range.1 hq;simp[folB,hp,wyF,hw,this]
theorem own_nin {w:World}{lo g cap:Nat}{a:Option Addr}{l:List Int}(h:IOwn w lo (.slice a g cap) l):NIn w.heap.size w a l:=by
 intro i hi;rcases h.2 with⟨h0,h1⟩|⟨g',cap',cur,hv,hbg,hh,rest⟩
 ·omega
 ·injection hv with e1 e2 e3
  subst e1;have hlt:g'<w.heap.size:=(Array.getElem?_eq_some_iff.1 hh).1;refine⟨g',0,rfl,hlt,hlt,?_⟩;rw[Nat.zero_add];have hc:=World.ownsRow.cells h (g:=g') rfl i (.int .i64 l[i]) (by simp[hi])
  rwa [addr_add,Nat.zero_add]at hc
theorem below_own {w:World}{lo n g:Nat}{v:Value}{xs:List Value}{e:TypeId}(h:w.ownsRow lo e n v g xs){w1:World}(hk:Kp (fun k=>v.ownBlock=some k) w w1)(hlo:lo≤w.heap.size):Below lo w w1:=
 hk.below hlo (fun k r=>(World.ownsRow.lt h k r).1)
theorem thoseThere_any (ca:Option Addr)(n cc:Nat)(na:Addr)(nc:Nat)(N:List Int)(w:World)(hN:NIn w.heap.size w (some na) N)(hl:N.length≤2):
 Calls Tryz.prog 125 #[.slice ca n cc,.slice (some na) N.length nc] w fun e w'=>∃v,e=.returned v∧IOwn w' w.heap.size v (srt (ddF n N))∧Below w.heap.size w w':=by
 have hT:=there_any ca n cc;have hC:=fun(W:World) (a:Option Addr) (c:Nat) (l:List Int) (x:Int) (h:IOwn W w.heap.size (.slice a l.length c) l) (h2:l.length≤4000000)=>Contains_any a c l x W (own_nin h) h2
 have hS:=fun(W:World) v (l:List Int) (h:IOwn W w.heap.size v l) (h2:l.length≤2)=>Sort_any w.heap.size v l W h2 h
 have hdl:∀j,(ddF n (N.take j)).length≤2:=fun j=>by
  have:=dd_len n (N.take j) [];unfold ddF;rw[List.length_take]at this;simp at this;omega
 replace hN:=Hid.mk hN;replace hT:=Hid.mk hT;replace hC:=Hid.mk hC;replace hS:=Hid.mk hS;replace hdl:=Hid.mk hdl;go_enter Tryz.func125,Tryz.ntmps125;go_wp2_with fail;go_loopw [5,10] (fun v i wr=>∃j:Nat,i=.int .i64 j∧j≤N.length∧Hid (IOwn wr w.heap.size v (ddF n (N.take j))∧Below w.heap.size w wr)) (fun _ i _=>N.length - (intOf i).toNat)
 case atStart=>exact⟨0,rfl,by omega,Hid.mk ⟨⟨rfl,.inl ⟨rfl,rfl⟩⟩,Below.refl _ _⟩⟩
 case round=>
  obtain⟨j,rfl,hj,⟨h1,h2⟩⟩:=hrel;by_cases hlt:j<N.length
  ·obtain⟨b,off,ena,hb0,hb,hc⟩:=hN.out j hlt;injection ena with ena;subst ena;have hc':=(h2.cell (p:=⟨b,off+j,none⟩) hb0).trans hc;have hi1:(j:Int)<N.length:=by omega
   have hs:=dd_take n N j hlt;have hl2:=hdl.out j;generalize N[j]=x at*;obtain⟨va,vc,rfl⟩:=own_slice h1;generalize ddF n (N.take j)=l at*
   cases et:thB n x with
   |false=>
    have e1:ddS n l x=l:=by simp[ddS,et]
    rw[e1]at hs;have hnew:Hid (IOwn wr w.heap.size (.slice va l.length vc) (ddF n (N.take (j+1)))∧Below w.heap.size w wr):=Hid.mk ⟨by rw[hs];exact h1,h2⟩;replace h1:=Hid.mk h1;replace h2:=Hid.mk h2;clear hs e1;go_wp2_with(first|(go_at_call 123;refine(hT.out _ _).mono ?_;rintro y w1 ⟨rfl,rfl⟩;rw[et]));go_roundw
    all_goals first|exact⟨j+1,by simp,by omega,hnew⟩|(simp only[intOf];omega)
   |true=>
    cases em:memB l x with
    |true=>
     have e1:ddS n l x=l:=by simp[ddS,em]
     rw[e1]at hs;have hnew:Hid (IOwn wr w.heap.size (.slice va l.length vc) (ddF n (N.take (j+1)))∧Below w.heap.size w wr):=Hid.mk ⟨by rw[hs];exact h1,h2⟩;replace h1:=Hid.mk h1;replace h2:=Hid.mk h2;clear hs e1;go_wp2_with(first|(go_at_call 123;refine(hT.out _ _).mono ?_;rintro y w1 ⟨rfl,rfl⟩;rw[et])|(go_at_call 156;refine(hC.out _ _ _ l x h1.out (by omega)).mono ?_;rintro y w1 ⟨rfl,rfl⟩;rw[em]));go_roundw
     all_goals first|exact⟨j+1,by simp,by omega,hnew⟩|(simp only[intOf];omega)
    |false=>
     have e1:ddS n l x=l++[x]:=by simp[ddS,et,em]
     rw[e1]at hs;have hsz:=h2.size;have h1':IOwn (wr.alloc (.cells #[.int .i64 x] 3)) w.heap.size (.slice va l.length vc) l:=own_below h1 (by(repeat(first|assumption|with_reducible exact Below.refl _ _|with_reducible refine Below.alloc ?_ (by simp<;>omega) _|with_reducible refine Below.setCell ?_ (by simp<;>omega) _|with_reducible refine Below.drew ?_)));have hlk:=World.ownsRow.lt h1;replace h1:=Hid.mk h1;replace h2:=Hid.mk h2;replace h1':=Hid.mk h1';replace hs:=Hid.mk hs;replace hlk:=Hid.mk hlk;clear e1;go_wp2_with(first|(go_at_call 123;refine(hT.out _ _).mono ?_;rintro y w1 ⟨rfl,rfl⟩;rw[et])|(go_at_call 156;refine(hC.out _ _ _ l x h1.out (by omega)).mono ?_;rintro y w1 ⟨rfl,rfl⟩;rw[em])|(at_builtin;refine wpList_append_int rfl (.tmp 23) (.tmp 25) rfl w.heap.size (.slice va l.length vc) l x rfl h1'.out _ rfl (At.new _ _ _) (by omega) (by simp;omega) ?_));intro g cap w2 g1 g2 g3 g4;have hnew:Hid (IOwn w2 w.heap.size (.slice (some ⟨g,0,none⟩) (l.length+1) cap) (ddF n (N.take (j+1)))∧Below w.heap.size w w2):=Hid.mk ⟨by rw[hs.out];exact g1,(h2.out.trans ((Below.refl _ _).alloc hsz _)).trans (Below.of_grown g2 (by simp;omega) (fun k r=>(hlk.out k r).1))⟩
     replace g1:=Hid.mk g1;replace g2:=Hid.mk g2;go_wp2_with fail;go_roundw
     all_goals first|exact⟨j+1,by simp,by omega,hnew⟩|(simp only[intOf];omega)
  ·have hi1:¬(j:Int)<N.length:=by omega
   have ej:N.take j=N:=List.take_of_length_le (by omega);have hl2:=hdl.out j;rw[ej]at h1 hl2;have hlo:=h2.size;replace h1:=Hid.mk h1;replace h2:=Hid.mk h2;go_wp2_with(first|(go_at_call 157;refine(hS.out _ _ (ddF n N) h1.out hl2).mono ?_;rintro y w1 ⟨rfl,k1,k2⟩;replace k1:=Hid.mk k1;replace k2:=Hid.mk k2));go_ret;exact⟨_,rfl,k1.out,h2.out.trans (below_own h1.out k2.out hlo)⟩
def AllAt (w:World)(n j:Nat)(wr:World):Prop:=
 Hid (Below w.heap.size w wr∧∃l:List Int,l.length=n∧IOwn wr w.heap.size (.slice (some ⟨w.heap.size,0,none⟩) n n) l∧∀k,k<j→l[k]?=some (k:Int))
theorem allOf_any (ca:Option Addr)(n cc:Nat)(w:World)(hn:n<2000000):Calls Tryz.prog 124 #[.slice ca n cc] w fun e w'=>∃v,e=.returned v∧IOwn w' w.heap.size v ((List.range n).map fun q:Nat=>(q:Int))∧Below w.heap.size w w':=by
 have hm:=make_ints n (by omega);have h0:AllAt w n 0 (w.alloc (.cells (Array.replicate n (.int .i64 0)) 3)):=Hid.mk ⟨by(repeat(first|assumption|with_reducible exact Below.refl _ _|with_reducible refine Below.alloc ?_ (by simp<;>omega) _|with_reducible refine Below.setCell ?_ (by simp<;>omega) _|with_reducible refine Below.drew ?_)),List.replicate n 0,by simp,⟨by simp,.inr ⟨w.heap.size,n,Array.replicate n (.int .i64 0),by simp,Nat.le_refl _,(MapKept.heap_alloc w _).1,by simp,by unfold maxLen;omega,by simp,by simp⟩⟩,fun k hk=>by omega⟩;have hE:∀wr,AllAt w n n wr→IOwn wr w.heap.size (.slice (some ⟨w.heap.size,0,none⟩) n n) ((List.range n).map fun q:Nat=>(q:Int))∧Below w.heap.size w wr:=fun wr q=>by
  obtain⟨q1,l,q2,q3,q4⟩:=q.out;have:l=(List.range n).map fun q:Nat=>(q:Int):=by
   apply List.ext_getElem?;intro k;by_cases hk:k<n
   ·rw[q4 k hk];simp[hk]
   ·rw[List.getElem?_eq_none (by omega),List.getElem?_eq_none (by simp;omega)]
  rw[←this];exact⟨q3,q1⟩
 have hS:∀j wr,AllAt w n j wr→j<n→(∃y,wr.cell? ⟨w.heap.size,j,none⟩=some y)∧wr.frozen? ⟨w.heap.size,j,none⟩=false∧AllAt w n (j+1) (wr.setCell ⟨w.heap.size,j,none⟩ (.int .i64 (j:Int))):=fun j wr q hj=>by
  obtain⟨q1,l,q2,q3,q4⟩:=q.out;have q3':IOwn wr w.heap.size (.slice (some ⟨w.heap.size,0,none⟩) l.length n) l:=by rw[q2];exact q3
  refine⟨⟨_,own_cell q3 j (by omega)⟩,World.ownsRow.frozenAt q3' j,Hid.mk ⟨q1.setCell (Nat.le_refl _) _,l.set j (j:Int),by simp[q2],?_,fun k hk=>?_⟩⟩
  ·have:=(World.ownsRow.stored q3' j (.int .i64 (j:Int))).1;unfold IOwn;rw[List.length_set,List.map_set,←q2]at*;exact this
  ·by_cases e:k=j
   ·subst e;simp[q2,hj]
   ·rw[List.getElem?_set_ne (fun r=>e r.symm)];exact q4 k (by omega)
 replace hE:=Hid.mk hE;replace hS:=Hid.mk hS;go_enter Tryz.func124,Tryz.ntmps124;go_wp2_with fail;go_loopw [10] (fun i wr=>∃j:Nat,i=.int .i64 j∧j≤n∧AllAt w n j wr) (fun i _=>n - (intOf i).toNat)
 case atStart=>exact⟨0,rfl,by omega,h0⟩
 case round=>
  obtain⟨j,rfl,hj,hI⟩:=hrel;by_cases hlt:j<n
  ·obtain⟨⟨y,s1⟩,s2,s3⟩:=hS.out j wr hI hlt;have hi1:(j:Int)<n:=by omega
   go_wp2_with fail;go_roundw
   all_goals first|exact⟨j+1,by simp,by omega,s3⟩|(simp only[intOf];omega)
  ·have hi1:¬(j:Int)<n:=by omega
   have ej:j=n:=by omega
   subst ej;go_wp2_with fail;go_ret;exact⟨_,rfl,(hE.out _ hI).1,(hE.out _ hI).2⟩
theorem nin_one (w:World)(x:Int):NIn (w.alloc (.cells #[.int .i64 x] 3)).heap.size (w.alloc (.cells #[.int .i64 x] 3)) (some ⟨w.heap.size,0,none⟩) [x]:=fun i hi=>by
 obtain rfl:i=0:=by simp at hi;omega
 exact⟨w.heap.size,0,rfl,by simp,by simp,(At.new w #[.int .i64 x] 3).2.1 0⟩
theorem nin_two (w:World)(x y:Int):NIn (w.alloc (.cells #[.int .i64 x,.int .i64 y] 3)).heap.size (w.alloc (.cells #[.int .i64 x,.int .i64 y] 3)) (some ⟨w.heap.size,0,none⟩) [x,y]:=fun i hi=>by
 obtain rfl|rfl:i=0∨i=1:=by simp at hi;omega
 ·exact⟨w.heap.size,0,rfl,by simp,by simp,(At.new w #[.int .i64 x,.int .i64 y] 3).2.1 0⟩
 ·exact⟨w.heap.size,0,rfl,by simp,by simp,(At.new w #[.int .i64 x,.int .i64 y] 3).2.1 1⟩
theorem own_lower {w:World}{b b':Nat}{v:Value}{l:List Int}(h:IOwn w b v l)(hb:b'≤b):IOwn w b' v l:=by
 refine⟨h.1,?_⟩;rcases h.2 with h2|⟨g,cap,cur,hv,hbg,rest⟩
 ·exact .inl h2
 ·exact .inr ⟨g,cap,cur,hv,by omega,rest⟩
theorem Next_any (L:List Ins)(ca:Option Addr)(cc:Nat)(pc:Int)(w:World)(hL:LIn w.heap.size w ca L)(hn:L.length<2000000):
 Calls Tryz.prog 78 #[.slice ca L.length cc,.int .i64 pc] w fun e w'=>∃v,e=.returned v∧IOwn w' w.heap.size v (nxtI L pc)∧Below w.heap.size w w':=by
 have hT:=there_any ca L.length cc
 cases et:thB L.length pc with
 |false=>
  have e0:nxtI L pc=[]:=by simp[nxtI,et]
  rw[e0];replace hL:=Hid.mk hL;replace hT:=Hid.mk hT;go_enter Tryz.func78,Tryz.ntmps78;go_wp2_with(first|(go_at_call 123;refine(hT.out _ _).mono ?_;rintro y w1 ⟨rfl,rfl⟩;rw[et]));go_ret;exact⟨_,rfl,⟨rfl,.inl ⟨rfl,rfl⟩⟩,Below.refl _ _⟩
 |true=>
  obtain⟨q,rfl,hq⟩:=thB_elim et;obtain⟨b,off,rfl,hb0,hb,five⟩:=hL q hq;have c0:=five.1;have c4:=five.2.2.2.2;have hW:=wayOf_any L[q].op;have hA:=allOf_any (some ⟨b,off,none⟩) L.length cc w hn;have hq1:(q:Int)<L.length:=by omega
  have hq2:¬(L.length:Int)≤q:=by omega
  have h1:=fun x=>thoseThere_any (some ⟨b,off,none⟩) L.length cc ⟨w.heap.size,0,none⟩ 1 [x] _ (nin_one w x) (by simp)
  have h2:=fun x y=>thoseThere_any (some ⟨b,off,none⟩) L.length cc ⟨w.heap.size,0,none⟩ 2 [x,y] _ (nin_two w x y) (by simp)
  simp only[List.length_cons,List.length_nil]at h1 h2;have fin:∀(o:Obj) (w1:World) (v:Value) (l:List Int),IOwn w1 (w.alloc o).heap.size v l→Below (w.alloc o).heap.size (w.alloc o) w1→IOwn w1 w.heap.size v l∧Below w.heap.size w w1:=fun o w1 v l r1 r2=>
   ⟨own_lower r1 (by simp),((Below.refl _ w).alloc (Nat.le_refl _) o).trans (r2.mono (by simp))⟩
  replace hL:=Hid.mk hL;replace five:=Hid.mk five;replace hT:=Hid.mk hT;replace hA:=Hid.mk hA;replace h1:=Hid.mk h1;replace h2:=Hid.mk h2;replace fin:=Hid.mk fin;rcases way_cases L[q].op with hy|hy|hy|hy|hy
  ·rw[nxt_ends hq hy];rw[hy]at hW;generalize L[q].op=op at*;generalize L[q].m=im at*;replace hW:=Hid.mk hW;go_enter Tryz.func78,Tryz.ntmps78;go_wp2_with(first|(go_at_call 123;refine(hT.out _ _).mono ?_;rintro y w1 ⟨rfl,rfl⟩;rw[et])|(go_at_call 120;refine(hW.out _).mono ?_;rintro y w1 ⟨rfl,rfl⟩));go_ret;exact⟨_,rfl,⟨rfl,.inl ⟨rfl,rfl⟩⟩,Below.refl _ _⟩
  ·rw[nxt_all hq hy];rw[hy]at hW;generalize L[q].op=op at*;generalize L[q].m=im at*;replace hW:=Hid.mk hW;go_enter Tryz.func78,Tryz.ntmps78;go_wp2_with(first|(go_at_call 123;refine(hT.out _ _).mono ?_;rintro y w1 ⟨rfl,rfl⟩;rw[et])|(go_at_call 120;refine(hW.out _).mono ?_;rintro y w1 ⟨rfl,rfl⟩)|(go_at_call 124;refine hA.out.mono ?_;rintro y w1 ⟨v,rfl,k1,k2⟩;replace k1:=Hid.mk k1;replace k2:=Hid.mk k2));go_ret;exact⟨_,rfl,k1.out,k2.out⟩
  ·rw[nxt_jump hq hy];rw[hy]at hW;generalize L[q].op=op at*;generalize L[q].m=im at*;replace hW:=Hid.mk hW;go_enter Tryz.func78,Tryz.ntmps78;go_wp2_with(first|(go_at_call 123;refine(hT.out _ _).mono ?_;rintro y w1 ⟨rfl,rfl⟩;rw[et])|(go_at_call 120;refine(hW.out _).mono ?_;rintro y w1 ⟨rfl,rfl⟩)|(go_at_call 125;refine(h1.out _).mono ?_;rintro y w1 ⟨v,rfl,k1,k2⟩;replace k1:=Hid.mk k1;replace k2:=Hid.mk k2));go_ret;exact⟨_,rfl,fin.out _ _ _ _ k1.out k2.out⟩
  ·rw[nxt_branch hq hy];rw[hy]at hW;generalize L[q].op=op at*;generalize L[q].m=im at*;replace hW:=Hid.mk hW;go_enter Tryz.func78,Tryz.ntmps78;go_wp2_with(first|(go_at_call 123;refine(hT.out _ _).mono ?_;rintro y w1 ⟨rfl,rfl⟩;rw[et])|(go_at_call 120;refine(hW.out _).mono ?_;rintro y w1 ⟨rfl,rfl⟩)|(go_at_call 125;refine(h2.out _ _).mono ?_;rintro y w1 ⟨v,rfl,k1,k2⟩;replace k1:=Hid.mk k1;replace k2:=Hid.mk k2));go_ret;exact⟨_,rfl,fin.out _ _ _ _ k1.out k2.out⟩
  ·rw[nxt_next hq hy];rw[hy]at hW;generalize L[q].op=op at*;generalize L[q].m=im at*;replace hW:=Hid.mk hW;go_enter Tryz.func78,Tryz.ntmps78;go_wp2_with(first|(go_at_call 123;refine(hT.out _ _).mono ?_;rintro y w1 ⟨rfl,rfl⟩;rw[et])|(go_at_call 120;refine(hW.out _).mono ?_;rintro y w1 ⟨rfl,rfl⟩)|(go_at_call 125;refine(h1.out _).mono ?_;rintro y w1 ⟨v,rfl,k1,k2⟩;replace k1:=Hid.mk k1;replace k2:=Hid.mk k2));go_ret;exact⟨_,rfl,fin.out _ _ _ _ k1.out k2.out⟩
end F
namespace Bd
open Go.RowKit
open T (Kp)
open F (thB nxtI folB IOwn)
def ovB (L:List Ins)(pc:Nat):Bool:=decide (pc+1=L.length)&&match L[pc]? with
 |none=>false
 |some k=>!(k.op==20 || k.op==26 || k.op==27 || k.op==28 || k.op==32)
def nxN (L:List Ins)(pc:Nat):List Nat:=((if thB L.length pc=true then(List.range L.length).filter (folB L pc)else [])++(if ovB L pc=true then [L.length]else []))
theorem nxN_int (L:List Ins)(pc:Nat):(nxN L pc).map (fun q:Nat=>(q:Int))=nxtI L pc++(if ovB L pc=true then [(L.length:Int)]else []):=by
 unfold nxN nxtI;rw[List.map_append]
 congr 1
 ·split<;>simp
 ·split<;>rfl
theorem nxN_in (L:List Ins)(pc:Nat):∀c∈nxN L pc,c∈List.range (L.length+1):=by
 intro c hc;unfold nxN at hc;rcases List.mem_append.1 hc with h|h
 ·split at h
  ·have:=(List.mem_filter.1 h).1;rw[List.mem_range]at this ⊢;omega
  ·cases h
 ·split at h
  ·rw[List.mem_singleton]at h;rw[List.mem_range];omega
  ·cases h
def CostIn (B:Nat)(w:World)(ka:Option Addr)(n:Nat)(sg ig:Nat→Int):Prop:=n=0∨∃b,ka=some ⟨b,0,none⟩∧b<B∧b<w.heap.size∧∀g,g<n→∃kn cc,w.cell? ⟨b,g*4,none⟩=some (.bool kn)∧w.cell? ⟨b,g*4+1,none⟩=some (.int .u64 (sg g))∧w.cell? ⟨b,g*4+2,none⟩=some (.int .u64 cc)∧w.cell? ⟨b,g*4+3,none⟩=some (.int .u64 (ig g))
theorem CostIn.below {B:Nat}{w w':World}{ka:Option Addr}{n:Nat}{sg ig:Nat→Int}(h:CostIn B w ka n sg ig)(hb:Below B w w'):CostIn B w' ka n sg ig:=by
 rcases h with h|⟨b,e,hB,hl,h⟩
 ·exact .inl h
 ·refine .inr ⟨b,e,hB,Nat.lt_of_lt_of_le hl hb.size,fun g hg=>?_⟩;obtain⟨kn,cc,h0,h1,h2,h3⟩:=h g hg;exact⟨kn,cc,(hb.cell (p:=⟨b,_,none⟩) hB).trans h0,(hb.cell (p:=⟨b,_,none⟩) hB).trans h1,(hb.cell (p:=⟨b,_,none⟩) hB).trans h2,(hb.cell (p:=⟨b,_,none⟩) hB).trans h3⟩
def caF (L:List Ins)(sg:Nat→Int)(pc:Nat):Int:=match L[pc]? with
 |none=>0
 |some k=>if k.op=31 then sg k.m.toNat else 0
def CallOk (L:List Ins)(n:Nat):Prop:=∀k∈L,k.op=31→0≤k.m∧k.m<n
def stF (L:List Ins)(sg:Nat→Int)(pc:Nat):Int:=IntKind.u64.wrap (1+caF L sg pc)
def inF (L:List Ins)(ig:Nat→Int)(pc:Nat):Int:=match L[pc]? with
 |none=>caF L ig pc
 |some k=>if k.op=29 then 1 else caF L ig pc
def tlA (ca:Option Addr)(L:List Ins)(cc:Nat)(ka:Option Addr)(n kc:Nat):Value:=.agg #[.slice ca L.length cc,.slice ka n kc]
theorem overruns_any (L:List Ins)(ca:Option Addr)(cc:Nat)(ka:Option Addr)(n kc:Nat)(pc:Nat)(w:World)(hL:LIn w.heap.size w ca L)(hp:pc<4611686018427387904)(hn:L.length<2000000):
 Calls Tryz.prog 79 #[tlA ca L cc ka n kc,.int .i64 pc] w fun e w'=>e=.returned (.bool (ovB L pc))∧Below w.heap.size w w':=by
 unfold tlA;by_cases hq:pc+1=L.length
 ·have hpl:pc<L.length:=by omega
  obtain⟨b,off,rfl,hb0,hb,five⟩:=hL pc hpl;have c0:=five.1;have eo:ovB L pc=!(L[pc].op==20 || L[pc].op==26 || L[pc].op==27 || L[pc].op==28 || L[pc].op==32):=by
   unfold ovB;rw[List.getElem?_eq_getElem hpl,decide_eq_true hq]
   rfl
  rw[eo];generalize L[pc].op=op at*;have q1:((pc:Int) != (L.length:Int) - 1)=false:=by rw[bne_eq_false_iff_eq];omega
  have q2:wrap64 ((L.length:Int) - 1)=(L.length:Int) - 1:=by unfold wrap64;omega
  have q3:IntKind.i64.wrap ((L.length:Int) - 1)=(L.length:Int) - 1:=by rw[IntKind.wrap_i64];omega
  have q4:(pc:Int)<(L.length:Int):=by omega
  replace hL:=ζ hL;clear five;clear eo hq hpl;by_cases h1:op=20
  ·subst h1;go_enter Tryz.func79,Tryz.ntmps79;go_wp2_with fail;go_ret;exact⟨rfl,(Below.refl _ _).alloc (Nat.le_refl _) _⟩
  by_cases h2:op=26
  ·subst h2;go_enter Tryz.func79,Tryz.ntmps79;go_wp2_with fail;go_ret;exact⟨rfl,(Below.refl _ _).alloc (Nat.le_refl _) _⟩
  by_cases h3:op=27
  ·subst h3;go_enter Tryz.func79,Tryz.ntmps79;go_wp2_with fail;go_ret;exact⟨rfl,(Below.refl _ _).alloc (Nat.le_refl _) _⟩
  by_cases h4:op=28
  ·subst h4;go_enter Tryz.func79,Tryz.ntmps79;go_wp2_with fail;go_ret;exact⟨rfl,(Below.refl _ _).alloc (Nat.le_refl _) _⟩
  by_cases h5:op=32
  ·subst h5;go_enter Tryz.func79,Tryz.ntmps79;go_wp2_with fail;go_ret;exact⟨rfl,(Below.refl _ _).alloc (Nat.le_refl _) _⟩
  have e1:(op==20)=false:=by simpa using h1
  have e2:(op==26)=false:=by simpa using h2
  have e3:(op==27)=false:=by simpa using h3
  have e4:(op==28)=false:=by simpa using h4
  have e5:(op==32)=false:=by simpa using h5
  rw[e1,e2,e3,e4,e5];clear h1 h2 h3 h4 h5;go_enter Tryz.func79,Tryz.ntmps79;go_wp2_with fail;go_ret;exact⟨rfl,(Below.refl _ _).alloc (Nat.le_refl _) _⟩
 ·have eo:ovB L pc=false:=by unfold ovB;rw[decide_eq_false hq];rfl
  rw[eo];have q1:((pc:Int) != (L.length:Int) - 1)=true:=by rw[bne_iff_ne];omega
  have q2:wrap64 ((L.length:Int) - 1)=(L.length:Int) - 1:=by unfold wrap64;omega
  have q3:IntKind.i64.wrap ((L.length:Int) - 1)=(L.length:Int) - 1:=by rw[IntKind.wrap_i64];omega
  replace hL:=ζ hL;clear eo hq;go_enter Tryz.func79,Tryz.ntmps79;go_wp2_with fail;go_ret;exact⟨rfl,(Below.refl _ _).alloc (Nat.le_refl _) _⟩
theorem next_any (L:List Ins)(ca:Option Addr)(cc:Nat)(ka:Option Addr)(n kc:Nat)(pc:Nat)(w:World)(hL:LIn w.heap.size w ca L)(hp:pc<4611686018427387904)(hn:L.length<2000000):
 Calls Tryz.prog 45 #[tlA ca L cc ka n kc,.int .i64 pc] w fun e w'=>∃v,e=.returned v∧IOwn w' w.heap.size v ((nxN L pc).map (fun q:Nat=>(q:Int)))∧Below w.heap.size w w':=by
 rw[nxN_int];have hO:=fun W (q:Below w.heap.size w W)=>overruns_any L ca cc ka n kc pc W ((hL.below q).mono q.size) hp hn
 have hN:=fun W (q:Below w.heap.size w W)=>F.Next_any L ca cc pc W ((hL.below q).mono q.size) hn
 have hlen:(nxtI L pc).length≤2000000:=by
  unfold nxtI
  split
  ·rw[List.length_map];have:=List.length_filter_le (folB L (pc:Int).toNat) (List.range L.length);rw[List.length_range]at this;omega
  ·simp
 unfold tlA at*;replace hL:=ζ hL;replace hN:=ζ hN
 cases ho:ovB L pc with
 |false=>
  rw[if_neg Bool.false_ne_true,List.append_nil];rw[ho]at hO;replace hO:=ζ hO;go_enter Tryz.func45,Tryz.ntmps45;go_upto_region 1 with fail
  refine wp_world (fun W=>At W w.heap.size #[.slice ca L.length cc,.slice ka n kc]∧Below w.heap.size w W) ⟨At.new w _ _,(Below.refl _ _).alloc (Nat.le_refl _) _⟩ ?_;rintro W ⟨A0,hB⟩;have⟨_,p0,_⟩:=A0;have c0:W.cell? ⟨w.heap.size,0,none⟩=some (.slice ca L.length cc):=p0 0;replace A0:=ζ A0;replace hB:=ζ hB;clear p0;go_upto_region 2 with(go_at_call 78;refine(hN.out _ hB.out).mono ?_;rintro r W1 ⟨v,rfl,k1,k2⟩;replace k1:=ζ k1;replace k2:=ζ k2)
  have A1:=at_keep A0.out (Kp.of_below (S:=fun _=>False) k2.out) id;have c1:W1.cell? ⟨w.heap.size,0,none⟩=some (.slice ca L.length cc):=A1.2.1 0;have c2:W1.cell? ⟨w.heap.size,1,none⟩=some (.slice ka n kc):=A1.2.1 1;have hB1:=ζ (hB.out.trans (k2.out.mono hB.out.size));clear c0;go_wp2_with(go_at_call 79;refine(hO.out _ hB1.out).mono ?_;rintro r W2 ⟨rfl,k3⟩;replace k3:=ζ k3);go_ret;exact⟨v,rfl,F.own_lower (own_below k1.out k3.out) hB.out.size,hB1.out.trans (k3.out.mono hB1.out.size)⟩
 |true=>
  rw[if_pos rfl];rw[ho]at hO;replace hO:=ζ hO;go_enter Tryz.func45,Tryz.ntmps45;go_upto_region 1 with fail
  refine wp_world (fun W=>At W w.heap.size #[.slice ca L.length cc,.slice ka n kc]∧Below w.heap.size w W) ⟨At.new w _ _,(Below.refl _ _).alloc (Nat.le_refl _) _⟩ ?_;rintro W ⟨A0,hB⟩;have⟨_,p0,_⟩:=A0;have c0:W.cell? ⟨w.heap.size,0,none⟩=some (.slice ca L.length cc):=p0 0;replace A0:=ζ A0;replace hB:=ζ hB;clear p0;go_upto_region 2 with(go_at_call 78;refine(hN.out _ hB.out).mono ?_;rintro r W1 ⟨v,rfl,k1,k2⟩;replace k1:=ζ k1;replace k2:=ζ k2)
  have A1:=at_keep A0.out (Kp.of_below (S:=fun _=>False) k2.out) id;have c1:W1.cell? ⟨w.heap.size,0,none⟩=some (.slice ca L.length cc):=A1.2.1 0;have c2:W1.cell? ⟨w.heap.size,1,none⟩=some (.slice ka n kc):=A1.2.1 1;have hB1:=ζ (hB.out.trans (k2.out.mono hB.out.size));clear c0;go_upto_region 3 with(go_at_call 79;refine(hO.out _ hB1.out).mono ?_;rintro r W2 ⟨rfl,k3⟩;replace k3:=ζ k3)
  have A2:=at_keep A1 (Kp.of_below (S:=fun _=>False) k3.out) id;have c3:W2.cell? ⟨w.heap.size,0,none⟩=some (.slice ca L.length cc):=A2.2.1 0;have hown:=ζ (F.own_lower (own_below k1.out k3.out) hB.out.size);have hB2:=ζ (hB1.out.trans (k3.out.mono hB1.out.size));clear c1 c2;have lt3:=A2.1;go_wp2_with(at_builtin;refine F.wpList_append_int rfl _ _ rfl w.heap.size v (nxtI L pc) (L.length:Int) rfl (own_below hown.out ((Below.refl _ _).alloc (Nat.le_refl _) _)) W2.heap.size rfl (At.new W2 _ _) (by omega) (by have:=hB2.out.size;simp;omega) ?_;intro g cap W3 a1 a2 a3 a4;replace a1:=ζ a1;replace a2:=ζ a2);go_ret;refine⟨_,rfl,?_,?_⟩
  ·exact a1.out
  ·have hW:=(Below.refl W2.heap.size W2).alloc (Nat.le_refl _) (.cells #[.int .i64 (L.length:Int)] 3);exact hB2.out.trans ((hW.mono hB2.out.size).trans (Below.of_grown a2.out (by have:=hB2.out.size;simp;omega) (fun g hg=>(hown.out.lt g hg).1)))
theorem called_no (L:List Ins)(ca:Option Addr)(cc:Nat)(ka:Option Addr)(n kc:Nat)(pc:Nat)(w:World)(hL:LIn w.heap.size w ca L)(hq:∀k,L[pc]?=some k→k.op≠31):
 Calls Tryz.prog 46 #[tlA ca L cc ka n kc,.int .i64 pc] w fun e w'=>e=.returned (.agg #[.bool false,.int .u64 0,.int .u64 0,.int .u64 0])∧Below w.heap.size w w':=by
 unfold tlA;by_cases hpl:pc<L.length
 ·obtain⟨b,off,rfl,hb0,hb,five⟩:=hL pc hpl;have c0:=five.1;have e1:(L[pc].op==31)=false:=by simpa using hq _ (List.getElem?_eq_getElem hpl)
  have q4:(pc:Int)<(L.length:Int):=by omega
  clear hq five;generalize L[pc].op=op at*;replace hL:=ζ hL;go_enter Tryz.func46,Tryz.ntmps46;go_wp2_with fail;refine bodyPost_ret (v:=.agg #[.bool false,.int .u64 0,.int .u64 0,.int .u64 0]) (by simp[results,Tryz.results46,go_sem]) rfl ⟨rfl,?_⟩
  repeat(first|exact Below.refl _ _|refine Below.alloc ?_ (by simp<;>omega) _|refine Below.setCell ?_ (by simp<;>omega) _)
 ·have q4:¬(pc:Int)<(L.length:Int):=by omega
  have q5:(L.length:Int)≤(pc:Int):=by omega
  clear hq;replace hL:=ζ hL;go_enter Tryz.func46,Tryz.ntmps46;go_wp2_with fail;refine bodyPost_ret (v:=.agg #[.bool false,.int .u64 0,.int .u64 0,.int .u64 0]) (by simp[results,Tryz.results46,go_sem]) rfl ⟨rfl,?_⟩
  repeat(first|exact Below.refl _ _|refine Below.alloc ?_ (by simp<;>omega) _|refine Below.setCell ?_ (by simp<;>omega) _)
theorem called_yes (L:List Ins)(ca:Option Addr)(cc:Nat)(kb:Nat)(n kc:Nat)(pc:Nat)(w:World)(hL:LIn w.heap.size w ca L)(hp:pc<L.length)(hop:L[pc].op=31)(g:Nat)(hm:L[pc].m=g)(hg:g<n)(hkb:kb<w.heap.size)(kn:Bool)(S C I:Int)
 (h0:w.cell? ⟨kb,g*4,none⟩=some (.bool kn))(h1:w.cell? ⟨kb,g*4+1,none⟩=some (.int .u64 S))(h2:w.cell? ⟨kb,g*4+2,none⟩=some (.int .u64 C))(h3:w.cell? ⟨kb,g*4+3,none⟩=some (.int .u64 I)):
 Calls Tryz.prog 46 #[tlA ca L cc (some ⟨kb,0,none⟩) n kc,.int .i64 pc] w fun e w'=>e=.returned (.agg #[.bool kn,.int .u64 S,.int .u64 C,.int .u64 I])∧Below w.heap.size w w':=by
 unfold tlA;obtain⟨b,off,rfl,hb0,hb,five⟩:=hL pc hp;have c0:=five.1;have c4:=five.2.2.2.2;rw[hop]at c0;rw[hm]at c4;have q4:(pc:Int)<(L.length:Int):=by omega
 have q6:(g:Int)<(n:Int):=by omega
 clear five;replace hL:=ζ hL;clear hop hm;go_enter Tryz.func46,Tryz.ntmps46;go_wp2_with fail;go_region
 all_goals
  go_wp2_with fail;refine bodyPost_ret (v:=.agg #[.bool kn,.int .u64 S,.int .u64 C,.int .u64 I]) (by simp[results,Tryz.results46,go_sem]) rfl ⟨rfl,?_⟩
  repeat(first|exact Below.refl _ _|refine Below.alloc ?_ (by simp<;>omega) _|refine Below.setCell ?_ (by simp<;>omega) _|refine Below.drew ?_)
def tupu:Option Int→Value
 |some v=>.tuple #[.int .u64 v,.bool true]
 |none=>.tuple #[.int .u64 0,.bool false]
def encu:Option Int→Value
 |some v=>.agg #[.int .u64 v,.bool true]
 |none=>.agg #[.int .u64 0,.bool false]
theorem hitu_some (p:Pl)(hp:p.qf=77)(n:Nat)(hn:n<4611686018427387904)(M:Nat→Option (Option Int))(nn:Nat)(v:Int)(hM:M n=some (some v))(w:World)(hR:Rem p encu w nn M)(Q:World→Prop)(hQ:∀w',Rem p encu w' nn M→Kp (fun k=>k=p.b) w w'→Q w'):
 Calls Tryz.prog p.qf #[.int .i64 n,pv p.kA,pv p.kF,pv p.kQ] w fun r w'=>r=.returned (tupu (some v))∧Q w':=by
 have hl0:(Instr.lookup 170 (.map (some p.b)) (.int .i64 n) true).run Tryz.prog w=.ok (.tuple #[.agg #[.int .u64 v,.bool true],.bool true]) w:=by
  have:=hR.m.look (t:=170) (e:=172) (by kernel_rfl) (z:=.agg #[.int .u64 0,.bool false]) (by kernel_rfl) n hn;rw[hM]at this;exact this
 have a0:w.cell? ⟨p.kA,0,none⟩=some (.map (some p.b)):=hR.a.2.1 0;have lta:=hR.a.1;replace hR:=ζ hR;clear hM hn;rw[hp];unfold pv tupu;go_enter Tryz.func77,Tryz.ntmps77;go_wp2_with fail;go_quiet (fail)
 all_goals
  go_wp2_with fail;refine bodyPost_ret (v:=.tuple #[.int .u64 v,.bool true]) (by simp[results,Tryz.results77,go_sem]) rfl ?_;refine⟨rfl,?_⟩;refine hQ _ (hR.out.below ?_) (Kp.of_below ?_)<;>exact Below.trans (Below.alloc (Below.refl _ _) (Nat.le_refl _) _) ((drewNb _ _).mono (by simp))
theorem hitu_none (p:Pl)(hp:p.qf=77)(n:Nat)(hn:n<4611686018427387904)(M:Nat→Option (Option Int))(nn:Nat)(hM:M n=some (none))(w:World)(hR:Rem p encu w nn M)(Q:World→Prop)(hQ:∀w',Rem p encu w' nn M→Kp (fun k=>k=p.b) w w'→Q w'):
 Calls Tryz.prog p.qf #[.int .i64 n,pv p.kA,pv p.kF,pv p.kQ] w fun r w'=>r=.returned (tupu (none))∧Q w':=by
 have hl0:(Instr.lookup 170 (.map (some p.b)) (.int .i64 n) true).run Tryz.prog w=.ok (.tuple #[.agg #[.int .u64 0,.bool false],.bool true]) w:=by
  have:=hR.m.look (t:=170) (e:=172) (by kernel_rfl) (z:=.agg #[.int .u64 0,.bool false]) (by kernel_rfl) n hn;rw[hM]at this;exact this
 have a0:w.cell? ⟨p.kA,0,none⟩=some (.map (some p.b)):=hR.a.2.1 0;have lta:=hR.a.1;replace hR:=ζ hR;clear hM hn;rw[hp];unfold pv tupu;go_enter Tryz.func77,Tryz.ntmps77;go_wp2_with fail;go_quiet (fail)
 all_goals
  go_wp2_with fail;refine bodyPost_ret (v:=.tuple #[.int .u64 0,.bool false]) (by simp[results,Tryz.results77,go_sem]) rfl ?_;refine⟨rfl,?_⟩;refine hQ _ (hR.out.below ?_) (Kp.of_below ?_)<;>exact Below.trans (Below.alloc (Below.refl _ _) (Nat.le_refl _) _) ((drewNb _ _).mono (by simp))
theorem missu_some (kt kc:Nat)(p:Pl)(hp:p.qf=77)(hf:p.fv=.func (.func 44) #[] #[pv kt,pv kc])(nx:Nat→List Nat)(f:Nat→List Int→Option Int)(U:List Nat)(S:Nat→Prop)(n:Nat)(hn:n<4611686018427387904)(M:Nat→Option (Option Int))(nn:Nat)(v:Int)(hM:M n=none)(w:World)(hR:Rem p encu w nn M)(hnn:nn+1+2*left U (setM M n none)≤1000000)
 (hfd:∀W,Rem p encu W (nn+1) (setM M n none)→Kp (fun k=>k=p.b) w W→Calls Tryz.prog 44 (#[.int .i64 n,p.qv]++#[pv kt,pv kc]) W fun r w'=>r=.returned (tupu (some v))∧Aft p encu nx f U S (setM M n none) (nn+1) W w'):
 Calls Tryz.prog p.qf #[.int .i64 n,pv p.kA,pv p.kF,pv p.kQ] w fun r w'=>r=.returned (tupu (some v))∧∃M' nn',Rem p encu w' (nn'+1) (setM M' n (some v))∧Memo nx f U S M'∧More (setM M n none) M'∧nn'+2*left U M'≤nn+1+2*left U (setM M n none)∧Kp (fun k=>k=p.b) w w':=by
 have hl0:(Instr.lookup 170 (.map (some p.b)) (.int .i64 n) true).run Tryz.prog w=.ok (.tuple #[.agg #[.int .u64 0,.bool false],.bool false]) w:=by
  have:=hR.m.look (t:=170) (e:=172) (by kernel_rfl) (z:=.agg #[.int .u64 0,.bool false]) (by kernel_rfl) n hn;rw[hM]at this;exact this
 have a0:w.cell? ⟨p.kA,0,none⟩=some (.map (some p.b)):=hR.a.2.1 0;have lta:=hR.a.1;replace hR:=ζ hR;replace hfd:=ζ hfd;replace hf:=ζ hf;replace hnn:=ζ hnn;clear hM;rw[hp];unfold pv tupu;go_enter Tryz.func77,Tryz.ntmps77;go_upto_region 4 with fail
 refine wp_world (fun W=>Below w.heap.size w W) (by repeat(first|exact Below.refl _ _|refine Below.alloc ?_ (by simp<;>omega) _|refine Below.setCell ?_ (by simp<;>omega) _)) ?_;intro W hB;clear hl0 a0;have hR1:=hR.out.below hB;have a0:W.cell? ⟨p.kA,0,none⟩=some (.map (some p.b)):=hR1.a.2.1 0;have hm1:=ζ hR1.m;replace hR1:=ζ hR1;replace hB:=ζ hB;go_upto_region 5 with(at_mapUpdate;refine wpList_put rfl _ _ _ _ 172 rfl (by kernel_rfl) p.b nn encu M rfl hm1.out (by have:=hnn.out;unfold maxLen;omega) n hn none rfl rfl ?_;intro W2 hm2 hk2)
 clear a0;have hR2:=hR1.out.turn hk2 hm2;have a0:W2.cell? ⟨p.kA,0,none⟩=some (.map (some p.b)):=hR2.a.2.1 0;have f0:W2.cell? ⟨p.kF,0,none⟩=some p.fv:=hR2.f.2.1 0;have q0:W2.cell? ⟨p.kQ,0,none⟩=some p.qv:=hR2.q.2.1 0;rw[hf.out]at f0;have hkw:Kp (fun k=>k=p.b) w W2:=(Kp.of_below hB.out).trans hk2 (fun k q=>.inl q);have hc:=hfd.out W2 hR2 hkw;replace hc:Calls Tryz.prog 44 #[.int .i64 n,p.qv,.pointer (some ⟨kt,0,none⟩),.pointer (some ⟨kc,0,none⟩)] W2 _:=hc;unfold tupu at hc;replace hkw:=ζ hkw;replace hR2:=ζ hR2;replace hc:=ζ hc;clear hm1 hm2 hk2 hR1;unfold pv at f0;go_upto_region 6 with(go_at_call 44;refine hc.out.mono ?_;rintro r W3 ⟨rfl,M',nn',hR3,hS3,hmo,hle,hk3⟩)
 clear a0 f0 q0;have a0:W3.cell? ⟨p.kA,0,none⟩=some (.map (some p.b)):=hR3.a.2.1 0;have hm3:=ζ hR3.m;replace hR3:=ζ hR3;replace hle:=ζ hle;replace hS3:=ζ hS3;replace hmo:=ζ hmo;replace hk3:=ζ (hkw.out.trans hk3 (fun k q=>.inl q));go_wp2_with(at_mapUpdate;refine wpList_put rfl _ _ _ _ 172 rfl (by kernel_rfl) p.b nn' encu M' rfl hm3.out (by have:=hnn.out;have:=hle.out;unfold maxLen;omega) n hn (some v) rfl rfl ?_;intro W4 hm4 hk4);refine bodyPost_ret (v:=.tuple #[.int .u64 v,.bool true]) (by simp[results,Tryz.results77,go_sem]) rfl ?_;exact⟨rfl,M',nn',hR3.out.turn hk4 hm4,hS3.out,hmo.out,hle.out,hk3.out.trans hk4 (fun k q=>.inl q)⟩
theorem missu_none (kt kc:Nat)(p:Pl)(hp:p.qf=77)(hf:p.fv=.func (.func 44) #[] #[pv kt,pv kc])(nx:Nat→List Nat)(f:Nat→List Int→Option Int)(U:List Nat)(S:Nat→Prop)(n:Nat)(hn:n<4611686018427387904)(M:Nat→Option (Option Int))(nn:Nat)(hM:M n=none)(w:World)(hR:Rem p encu w nn M)(hnn:nn+1+2*left U (setM M n none)≤1000000)
 (hfd:∀W,Rem p encu W (nn+1) (setM M n none)→Kp (fun k=>k=p.b) w W→Calls Tryz.prog 44 (#[.int .i64 n,p.qv]++#[pv kt,pv kc]) W fun r w'=>r=.returned (tupu (none))∧Aft p encu nx f U S (setM M n none) (nn+1) W w'):
 Calls Tryz.prog p.qf #[.int .i64 n,pv p.kA,pv p.kF,pv p.kQ] w fun r w'=>r=.returned (tupu (none))∧∃M' nn',Rem p encu w' (nn'+1) (setM M' n (none))∧Memo nx f U S M'∧More (setM M n none) M'∧nn'+2*left U M'≤nn+1+2*left U (setM M n none)∧Kp (fun k=>k=p.b) w w':=by
 have hl0:(Instr.lookup 170 (.map (some p.b)) (.int .i64 n) true).run Tryz.prog w=.ok (.tuple #[.agg #[.int .u64 0,.bool false],.bool false]) w:=by
  have:=hR.m.look (t:=170) (e:=172) (by kernel_rfl) (z:=.agg #[.int .u64 0,.bool false]) (by kernel_rfl) n hn;rw[hM]at this;exact this
 have a0:w.cell? ⟨p.kA,0,none⟩=some (.map (some p.b)):=hR.a.2.1 0;have lta:=hR.a.1;replace hR:=ζ hR;replace hfd:=ζ hfd;replace hf:=ζ hf;replace hnn:=ζ hnn;clear hM;rw[hp];unfold pv tupu;go_enter Tryz.func77,Tryz.ntmps77;go_upto_region 4 with fail
 refine wp_world (fun W=>Below w.heap.size w W) (by repeat(first|exact Below.refl _ _|refine Below.alloc ?_ (by simp<;>omega) _|refine Below.setCell ?_ (by simp<;>omega) _)) ?_;intro W hB;clear hl0 a0;have hR1:=hR.out.below hB;have a0:W.cell? ⟨p.kA,0,none⟩=some (.map (some p.b)):=hR1.a.2.1 0;have hm1:=ζ hR1.m;replace hR1:=ζ hR1;replace hB:=ζ hB;go_upto_region 5 with(at_mapUpdate;refine wpList_put rfl _ _ _ _ 172 rfl (by kernel_rfl) p.b nn encu M rfl hm1.out (by have:=hnn.out;unfold maxLen;omega) n hn none rfl rfl ?_;intro W2 hm2 hk2)
 clear a0;have hR2:=hR1.out.turn hk2 hm2;have a0:W2.cell? ⟨p.kA,0,none⟩=some (.map (some p.b)):=hR2.a.2.1 0;have f0:W2.cell? ⟨p.kF,0,none⟩=some p.fv:=hR2.f.2.1 0;have q0:W2.cell? ⟨p.kQ,0,none⟩=some p.qv:=hR2.q.2.1 0;rw[hf.out]at f0;have hkw:Kp (fun k=>k=p.b) w W2:=(Kp.of_below hB.out).trans hk2 (fun k q=>.inl q);have hc:=hfd.out W2 hR2 hkw;replace hc:Calls Tryz.prog 44 #[.int .i64 n,p.qv,.pointer (some ⟨kt,0,none⟩),.pointer (some ⟨kc,0,none⟩)] W2 _:=hc;unfold tupu at hc;replace hkw:=ζ hkw;replace hR2:=ζ hR2;replace hc:=ζ hc;clear hm1 hm2 hk2 hR1;unfold pv at f0;go_upto_region 6 with(go_at_call 44;refine hc.out.mono ?_;rintro r W3 ⟨rfl,M',nn',hR3,hS3,hmo,hle,hk3⟩)
 clear a0 f0 q0;have a0:W3.cell? ⟨p.kA,0,none⟩=some (.map (some p.b)):=hR3.a.2.1 0;have hm3:=ζ hR3.m;replace hR3:=ζ hR3;replace hle:=ζ hle;replace hS3:=ζ hS3;replace hmo:=ζ hmo;replace hk3:=ζ (hkw.out.trans hk3 (fun k q=>.inl q));go_wp2_with(at_mapUpdate;refine wpList_put rfl _ _ _ _ 172 rfl (by kernel_rfl) p.b nn' encu M' rfl hm3.out (by have:=hnn.out;have:=hle.out;unfold maxLen;omega) n hn (none) rfl rfl ?_;intro W4 hm4 hk4);refine bodyPost_ret (v:=.tuple #[.int .u64 0,.bool false]) (by simp[results,Tryz.results77,go_sem]) rfl ?_;exact⟨rfl,M',nn',hR3.out.turn hk4 hm4,hS3.out,hmo.out,hle.out,hk3.out.trans hk4 (fun k q=>.inl q)⟩
theorem hitu_any (p:Pl)(hp:p.qf=77)(n:Nat)(hn:n<4611686018427387904)(M:Nat→Option (Option Int))(nn:Nat)(e:Option Int)(hM:M n=some e)(w:World)(hR:Rem p encu w nn M)(Q:World→Prop)(hQ:∀w',Rem p encu w' nn M→Kp (fun k=>k=p.b) w w'→Q w'):
 Calls Tryz.prog p.qf #[.int .i64 n,pv p.kA,pv p.kF,pv p.kQ] w fun r w'=>r=.returned (tupu e)∧Q w':=by
 cases e with
 |some v=>exact hitu_some p hp n hn M nn v hM w hR Q hQ
 |none=>exact hitu_none p hp n hn M nn hM w hR Q hQ
theorem asku_any (kt kc:Nat)(E:World→Prop)(p:Pl)(hp:p.qf=77)(hf:p.fv=.func (.func 44) #[] #[pv kt,pv kc])(hE:∀w w',E w→Kp (fun k=>k=p.b) w w'→E w')(nx:Nat→List Nat)(f:Nat→List Int→Option Int)(U:List Nat)(hU:∀n∈U,n<4611686018427387904)
 (hfind:∀d,AskC E p encu tupu nx f U d→FindC 44 #[pv kt,pv kc] E p encu tupu nx f U d):∀d,AskC E p encu tupu nx f U d:=by
 have hhit:∀(w:World) (n:Nat) (S:Nat→Prop) (M:Nat→Option (Option Int)) (nn:Nat) (e:Option Int),M n=some e→Rem p encu w nn M→Memo nx f U S M→(∀q,S q→Anc nx f q n)→n∈U→
  Calls Tryz.prog p.qf #[.int .i64 n,pv p.kA,pv p.kF,pv p.kQ] w fun r w'=>r=.returned (tupu (ev nx f U n))∧Aft p encu nx f U S M nn w w':=by
  intro w n S M nn e hM hR hS hA hn;rw[←hS.at_ hA hM];exact hitu_any p hp n (hU n hn) M nn e hM w hR _ (fun w' hR' hk=>⟨M,nn,hR',hS,More.refl M,Nat.le_refl _,hk⟩)
 intro d
 induction d with
 |zero=>
  intro w n S M nn hEw hR hS hA hn hl hb
  cases hM:M n with
  |some e=>exact hhit w n S M nn e hM hR hS hA hn
  |none=>exact absurd (left_set hn hM none) (by omega)
 |succ d ih=>
  intro w n S M nn hEw hR hS hA hn hl hb
  cases hM:M n with
  |some e=>exact hhit w n S M nn e hM hR hS hA hn
  |none=>
   have hlt:=left_set hn hM none;have hfd:=fun W (h2:Rem p encu W (nn+1) (setM M n none)) (h1:Kp (fun k=>k=p.b) w W)=>hfind d ih W n S (setM M n none) (nn+1) (hE w W hEw h1) h2 (hS.begin n) hA hn (by omega) (by omega)
   have hh:Calls Tryz.prog p.qf #[.int .i64 n,pv p.kA,pv p.kF,pv p.kQ] w fun r w'=>r=.returned (tupu (ev nx f U n))∧∃M' nn',Rem p encu w' (nn'+1) (setM M' n (ev nx f U n))∧Memo nx f U (fun x=>S x∨x=n) M'∧More (setM M n none) M'∧nn'+2*left U M'≤nn+1+2*left U (setM M n none)∧Kp (fun k=>k=p.b) w w':=by
    revert hfd
    cases ev nx f U n with
    |some v=>exact fun hfd=>missu_some kt kc p hp hf nx f U _ n (hU n hn) M nn v hM w hR (by omega) hfd
    |none=>exact fun hfd=>missu_none kt kc p hp hf nx f U _ n (hU n hn) M nn hM w hR (by omega) hfd
   refine hh.mono ?_;rintro r w' ⟨e1,M',nn',h1,h2,h3,h4,h5⟩;refine⟨e1,setM M' n (ev nx f U n),nn'+1,h1,h2.done _ rfl,((More.set M n none).trans h3).trans (More.set _ _ _),?_,h5⟩;have:=left_more (U:=U) (More.set M' n (ev nx f U n));omega
theorem remu_any (kt kc:Nat)(w:World):
 Calls Tryz.prog 43 #[.func (.func 44) #[] #[.pointer (some ⟨kt,0,none⟩),.pointer (some ⟨kc,0,none⟩)]] w fun e w'=>∃p:Pl,e=.returned p.qv∧p.qf=77∧p.fv=.func (.func 44) #[] #[pv kt,pv kc]∧Rem p encu w' 0 (fun _=>none)∧Below w.heap.size w w'∧w.heap.size≤p.b:=by
 have hmm:= @run_makeMap Tryz.prog;have b1:Below w.heap.size w (w.alloc (.cells #[.func (.func 44) #[] #[.pointer (some ⟨kt,0,none⟩),.pointer (some ⟨kc,0,none⟩)]] 122)):=(Below.refl _ w).alloc (Nat.le_refl _) _;have b2:=b1.alloc b1.size (.map #[] 0);have b3:=b2.alloc b2.size (.cells #[.map (some (w.heap.size+1))] 170);have b4:=b3.alloc b3.size (.cells #[.nilFunc] 119);have aF:=(((At.new w #[.func (.func 44) #[] #[.pointer (some ⟨kt,0,none⟩),.pointer (some ⟨kc,0,none⟩)]] 122).alloc (.map #[] 0)).alloc (.cells #[.map (some (w.heap.size+1))] 170)).alloc (.cells #[.nilFunc] 119);have aA:=(At.new ((w.alloc (.cells #[.func (.func 44) #[] #[.pointer (some ⟨kt,0,none⟩),.pointer (some ⟨kc,0,none⟩)]] 122)).alloc (.map #[] 0)) #[.map (some (w.heap.size+1))] 170).alloc (.cells #[.nilFunc] 119);have aQ:=At.new (((w.alloc (.cells #[.func (.func 44) #[] #[.pointer (some ⟨kt,0,none⟩),.pointer (some ⟨kc,0,none⟩)]] 122)).alloc (.map #[] 0)).alloc (.cells #[.map (some (w.heap.size+1))] 170)) #[.nilFunc] 119
 have aM:MpIn ((((w.alloc (.cells #[.func (.func 44) #[] #[.pointer (some ⟨kt,0,none⟩),.pointer (some ⟨kc,0,none⟩)]] 122)).alloc (.map #[] 0)).alloc (.cells #[.map (some (w.heap.size+1))] 170)).alloc (.cells #[.nilFunc] 119)) (w.heap.size+1) 0 encu (fun _=>none):=by
  have m0:=mp_made (w.alloc (.cells #[.func (.func 44) #[] #[.pointer (some ⟨kt,0,none⟩),.pointer (some ⟨kc,0,none⟩)]] 122)) encu;have e:(w.alloc (.cells #[.func (.func 44) #[] #[.pointer (some ⟨kt,0,none⟩),.pointer (some ⟨kc,0,none⟩)]] 122)).heap.size=w.heap.size+1:=by simp
  rw[e]at m0;exact(m0.below ((Below.refl _ _).alloc (Nat.le_refl _) _)).below ((Below.refl _ _).alloc (Nat.le_refl _) _)
 have e2:((w.alloc (.cells #[.func (.func 44) #[] #[.pointer (some ⟨kt,0,none⟩),.pointer (some ⟨kc,0,none⟩)]] 122)).alloc (.map #[] 0)).heap.size=w.heap.size+1+1:=by simp
 have e3:(((w.alloc (.cells #[.func (.func 44) #[] #[.pointer (some ⟨kt,0,none⟩),.pointer (some ⟨kc,0,none⟩)]] 122)).alloc (.map #[] 0)).alloc (.cells #[.map (some (w.heap.size+1))] 170)).heap.size=w.heap.size+1+1+1:=by simp
 rw[e2]at aA;rw[e3]at aQ;replace aM:=ζ aM;replace aA:=ζ aA;replace aQ:=ζ aQ;replace aF:=ζ aF;replace b4:=ζ b4;clear b1 b2 b3 e2 e3;go_enter Tryz.func43,Tryz.ntmps43;go_upto_region 3 with fail
 refine wp_world (fun W=>At W w.heap.size #[.func (.func 44) #[] #[.pointer (some ⟨kt,0,none⟩),.pointer (some ⟨kc,0,none⟩)]]∧At W (w.heap.size+1+1) #[.map (some (w.heap.size+1))]∧At W (w.heap.size+1+1+1) #[.nilFunc]∧MpIn W (w.heap.size+1) 0 encu (fun _=>none)∧Below w.heap.size w W) ⟨aF.out,aA.out,aQ.out,aM.out,b4.out⟩ ?_;clear aF aA aQ aM b4 hmm;rintro W ⟨aF,aA,aQ,aM,hB⟩;have⟨l3,p3,f3⟩:=aQ;have hk:=kp_sets W (w.heap.size+1+1+1) [.func (.func 77) #[] #[.pointer (some ⟨w.heap.size+1+1,0,none⟩),.pointer (some ⟨w.heap.size,0,none⟩),.pointer (some ⟨w.heap.size+1+1+1,0,none⟩)]] 0;have hfin:=ζ (At.setAll (cs:=[.nilFunc]) aQ [.func (.func 77) #[] #[.pointer (some ⟨w.heap.size+1+1,0,none⟩),.pointer (some ⟨w.heap.size,0,none⟩),.pointer (some ⟨w.heap.size+1+1+1,0,none⟩)]] rfl);have gF:=ζ (at_keep aF hk (by omega));have gA:=ζ (at_keep aA hk (by omega));have gM:=ζ (aM.keep hk (by omega));have gB:=ζ (hB.trans (hk.below hB.size (fun k q=>by omega)))
 clear hk aF aA aM;replace hB:=ζ hB;have hmf:∀(fn:Fn) (first cap:Array Value) (w:World),(Instr.makeFunc fn first cap).run Tryz.prog w=.ok (.func fn first cap) w:=fun _ _ _ _=>rfl
 go_wp2_with fail;have⟨_,q3,_⟩:=hfin.out;go_ret;exact⟨⟨w.heap.size+1+1,w.heap.size,w.heap.size+1+1+1,w.heap.size+1,.func (.func 44) #[] #[.pointer (some ⟨kt,0,none⟩),.pointer (some ⟨kc,0,none⟩)],77⟩,rfl,rfl,rfl,⟨gA.out,gF.out,hfin.out,gM.out⟩,gB.out,by show w.heap.size≤w.heap.size+1;omega⟩
end Bd
end Go.Proofs.YtkhbiaaangnkdaaGreatDoor
