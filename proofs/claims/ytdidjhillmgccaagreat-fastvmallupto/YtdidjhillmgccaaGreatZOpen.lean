import Derived.Test.YtdidjhillmgccaaGreatTOpen
import Derived.Test.YtdidjhillmgccaaGreatP26
import Derived.SizedLaws
namespace Go.Proofs.YtdidjhillmgccaaGreat
set_option maxRecDepth 100000
set_option maxHeartbeats 40000000
namespace Z
open Go.ChangeShapes Go.WideShapes Go.ChangeAt Go.RowKit Go.Deep
theorem bdz_u64 {n:Int}(h:(Lit.int .u64 n).wf=true):Wd n:=by
 have:=bounds_u64 h;unfold Wd;omega
theorem bdz_u8 {n:Int}(h:(Lit.int .u8 n).wf=true):0≤n∧n<256:=by
 have:=bounds_u8 h;omega
theorem bdz_i64 {n:Int}(h:(Lit.int .i64 n).wf=true): -9223372036854775808≤n∧n<9223372036854775808:=by
 have:=bounds_i64 h;omega
theorem bulkz_one {H:Type}(d:DataW H):1≤Rows.uptoBulk d:=by
 cases d with
 |lit l=>cases l<;>simp[Rows.uptoBulk]
 |_=>simp[Rows.uptoBulk]
theorem bulkz_len {H:Type}(l:List (DataW H)):l.length≤Rows.uptoBulkAll l:=by
 induction l with
 |nil=>simp[Rows.uptoBulkAll]
 |cons x r ih=>have:=bulkz_one x;simp only[Rows.uptoBulkAll,List.length_cons];omega
theorem bulkz_mem {H:Type}{d:DataW H}:∀{l:List (DataW H)},d∈l→Rows.uptoBulk d≤Rows.uptoBulkAll l
 |x::r,h=>by
  simp only[Rows.uptoBulkAll];rcases List.mem_cons.1 h with rfl|h
  ·omega
  ·have:=bulkz_mem h;omega
 |[],h=>by simp at h
theorem bulkz_in {H:Type}{l:List (DataW H)}(hk:Rows.uptoSmall H l=true):∀d∈l,Rows.uptoBulk d≤1048576:=fun d hd=>by
 have h:Rows.uptoBulkAll l≤1048576:=of_decide_eq_true hk;have:=bulkz_mem hd;omega
theorem choosez {α:Type}(p:Nat→α→Prop):∀n,(∀i,i<n→∃k,p i k)→∃L:List α,L.length=n∧∀i (h:i<L.length),p i L[i]
 |0,_=>⟨[],rfl,fun i h=>by simp at h⟩
 |n+1,h=>by
  obtain⟨L,hl,hL⟩:=choosez p n (fun i hi=>h i (by omega));obtain⟨k,hk⟩:=h n (by omega);refine⟨L++[k],by simp[hl],fun i hi=>?_⟩;by_cases hin:i<L.length
  ·rw[List.getElem_append_left hin];exact hL i hin
  ·have:i=n:=by simp at hi;omega
   subst this;rw[List.getElem_append_right (by omega)];simpa [hl]using hk
theorem no_spotz {W:World}{a:Addr}{cs:List Value}{k:Nat}(hk:0<k)(h:W.cells? 0 (a.add (0*k)) k=some cs):a.spot=none:=by
 obtain⟨_,hl,hc⟩:=World.cells?_some h;have c0:=hc 0 hk;simp only[Nat.zero_mul,Addr.add,if_true]at c0;have:cs[0]?=some (cs[0]'(by omega)):=by simp
 exact World.cell?_spot (c0.trans this)
theorem open_rowsB {H:Type}{enc:TypeId×Value→H}{W:World}{spare:Nat→Bool}{held:Bool}{α:Type}{Q:List Value→α→Prop}{Rg:α→Prop}{k:Nat}{t e:TypeId}(ht:Tryz.prog.underlying t=some (.slice e))(hce:Tryz.prog.cellsOf e=k)(hk:0<k)
 (hel:∀(n:Nat) (cs:List Value) (x:DataW H×List MemPlace),DataW.trod enc Tryz.prog W 0 spare held n e cs=some x→∃a,Q cs a∧(Rows.uptoBulk x.1≤1048576→Rg a))
 {fuel:Nat}{cs:List Value}{x:DataW H×List MemPlace}(h:DataW.trod enc Tryz.prog W 0 spare held fuel t cs=some x):
 ∃(a:Option Addr) (cap:Nat) (L:List α),cs=[.slice a L.length cap]∧(∀i (h:i<L.length),∃b off,a=some ⟨b,off,none⟩∧b<W.heap.size∧∃cs',Q cs' L[i]∧∀j,j<k→W.cell? ⟨b,off+i*k+j,none⟩=cs'[j]?)∧
  (Rows.uptoBulk x.1≤1048576→L.length≤1048575∧∀r∈L,Rg r)∧((a=none∧L=[]∧cap=0)∨∃b:Addr,a=some b):=by
 rcases open_slice ht h with⟨rfl,rfl⟩|⟨a,len,cap,m,n,D,Pl,rfl,_,hl,hm,hmm,rfl,hx⟩
 ·exact⟨none,0,[],rfl,fun i hi=>by simp at hi,fun _=>⟨by simp,by simp⟩,.inl ⟨rfl,rfl,rfl⟩⟩
 ·have hlm:len≤m:=by rw[hmm];split<;>omega
  rw[hce]at hx;have hk':∀i,i<len→∃y,(∃cs',W.cells? 0 (a.add (i*k)) k=some cs'∧Q cs' y)∧(Rows.uptoBulk (D i)≤1048576→Rg y):=fun i hi=>by
   obtain⟨cs',e1,e2⟩:=hx i (by omega);obtain⟨y,q,r⟩:=hel _ _ _ e2;exact⟨y,⟨cs',e1,q⟩,r⟩
  obtain⟨L,hL,hp⟩:=choosez _ _ hk';subst hL;refine⟨some a,cap,L,rfl,fun i hi=>?_,fun hli=>?_,.inr ⟨a,rfl⟩⟩
  ·have h0:0<L.length:=by omega
   obtain⟨⟨c0,hc0,_⟩,_⟩:=hp 0 h0;have hs:a.spot=none:=no_spotz hk hc0;obtain⟨⟨cs',hc,q⟩,_⟩:=hp i hi;obtain⟨_,hlen,hcc⟩:=World.cells?_some hc;obtain⟨b,off,spot⟩:=a;obtain rfl:spot=none:=hs;have hcell:∀j,j<k→W.cell? ⟨b,off+i*k+j,none⟩=cs'[j]?:=fun j hj=>by
    have:=hcc j hj
    rwa [addr_addZ,addr_addZ]at this
   have c1:=hcell 0 hk;have:cs'[0]?=some (cs'[0]'(by omega)):=by simp
   exact⟨b,off,rfl,World.block_lt_of_cell? W _ (c1.trans this),cs',q,hcell⟩
  ·simp only[Rows.uptoBulk]at hli;have h1:=bulkz_len ((List.range L.length).map D);rw[List.length_map,List.length_range]at h1;refine⟨by omega,fun r hr=>?_⟩;obtain⟨i,hi,rfl⟩:=List.getElem_of_mem hr;refine(hp i hi).2 ?_;have:D i∈(List.range L.length).map D:=List.mem_map.2 ⟨i,List.mem_range.2 hi,rfl⟩;have:=bulkz_mem this;omega
theorem ein_of {α:Type}{k:Nat}{vals:α→List Value}{W:World}{a:Option Addr}{L:List α}(hv:∀x,(vals x).length=k)(h:∀i (h:i<L.length),∃b off,a=some ⟨b,off,none⟩∧b<W.heap.size∧∀j,j<k→W.cell? ⟨b,off+i*k+j,none⟩=(vals L[i])[j]?):T.EIn k vals W a L:=fun i hi=>by
 obtain⟨b,off,e1,e2,e3⟩:=h i hi;refine⟨b,off,e1,e2,fun j v q=>?_⟩;have hj:=(List.getElem?_eq_some_iff.1 q).1;rw[hv]at hj;rw[e3 j hj,q]
theorem five_z {α:Type}{cs:List α}(h:cs.length=5):∃c0 c1 c2 c3 c4,cs=[c0,c1,c2,c3,c4]:=by
 match cs,h with
 |[c0,c1,c2,c3,c4],_=>exact⟨c0,c1,c2,c3,c4,rfl⟩
theorem four_z {α:Type}{cs:List α}(h:cs.length=4):∃c0 c1 c2 c3,cs=[c0,c1,c2,c3]:=by
 match cs,h with
 |[c0,c1,c2,c3],_=>exact⟨c0,c1,c2,c3,rfl⟩
theorem trod_fi {H:Type}{enc:TypeId×Value→H}{W:World}{spare:Nat→Bool}{held:Bool}{n:Nat}{cs:List Value}{x:DataW H×List MemPlace}
 (hf:DataW.trod enc Tryz.prog W 0 spare held n 53 cs=some x):∃k:Ri,cs=k.vals∧k.Is:=by
 obtain⟨xs,m,_,hxx,hcl,hl,hx⟩:=DataW.trod_struct Tryz.underlying53 hf;have at_:∀i,i<5→∃y,xs[i]?=some y:=by
  intro i hi;have:i<xs.length:=by rw[hl];simpa using hi
  exact⟨xs[i],by simp[this]⟩
 obtain⟨c0,c1,c2,c3,c4,rfl⟩:=five_z (hcl.trans (show Tryz.prog.cellsOf 53=5 by kernel_rfl));have k1:Tryz.prog.cellsOf 50=1:=by kernel_rfl
 have k2:Tryz.prog.cellsOf 3=1:=by kernel_rfl
 have k3:Tryz.prog.cellsOf 51=1:=by kernel_rfl
 obtain⟨y0,t0⟩:=at_ 0 (by omega);rw[←hx 0 _ rfl]at t0;obtain⟨y1,t1⟩:=at_ 1 (by omega);rw[←hx 1 _ rfl]at t1;obtain⟨y2,t2⟩:=at_ 2 (by omega);rw[←hx 2 _ rfl]at t2;obtain⟨y3,t3⟩:=at_ 3 (by omega);rw[←hx 3 _ rfl]at t3;obtain⟨y4,t4⟩:=at_ 4 (by omega);rw[←hx 4 _ rfl]at t4;obtain⟨op,e0,_,w0⟩:=DataW.trod_int Tryz.underlying50 t0;obtain⟨a,e1,_,_⟩:=DataW.trod_int Tryz.underlying3 t1;obtain⟨b,e2,_,_⟩:=DataW.trod_int Tryz.underlying3 t2;obtain⟨c,e3,_,_⟩:=DataW.trod_int Tryz.underlying3 t3;obtain⟨i,e4,_,w4⟩:=DataW.trod_int Tryz.underlying51 t4;simp[k1,k2,k3]at e0 e1 e2 e3 e4;subst e0 e1 e2 e3 e4;exact⟨⟨op,a,b,c,i⟩,rfl,bdz_u8 w0,bdz_u64 w4⟩
theorem trod_row {H:Type}{enc:TypeId×Value→H}{W:World}{spare:Nat→Bool}{held:Bool}{n:Nat}{cs:List Value}{x:DataW H×List MemPlace}
 (hf:DataW.trod enc Tryz.prog W 0 spare held n 54 cs=some x):∃r:List Ri,(∃ra rc,cs=[.slice ra r.length rc]∧T.EIn 5 Ri.vals W ra r∧∀i∈r,i.Is)∧(Rows.uptoBulk x.1≤1048576→r.length≤1048575):=by
 obtain⟨a,cap,L,e,hL,hr,_⟩:=open_rowsB (Q:=fun cs (k:Ri)=>cs=k.vals∧k.Is) (Rg:=fun _=>True) Tryz.underlying54 (show Tryz.prog.cellsOf 53=5 by kernel_rfl) (by omega) (fun _ _ _ h=>by obtain⟨k,h1,h2⟩:=trod_fi h;exact⟨k,⟨h1,h2⟩,fun _=>trivial⟩) hf;refine⟨L,⟨a,cap,e,ein_of ri_len (fun i hi=>?_),fun r hm=>?_⟩,fun h=>(hr h).1⟩
 ·obtain⟨b,off,ha,hb,cs',⟨rfl,_⟩,hc⟩:=hL i hi;exact⟨b,off,ha,hb,hc⟩
 ·obtain⟨i,hi,rfl⟩:=List.getElem_of_mem hm;obtain⟨b,off,ha,hb,cs',⟨rfl,q⟩,hc⟩:=hL i hi;exact q
theorem trod_word {H:Type}{enc:TypeId×Value→H}{W:World}{spare:Nat→Bool}{held:Bool}{n:Nat}{cs:List Value}{x:DataW H×List MemPlace}
 (hf:DataW.trod enc Tryz.prog W 0 spare held n 51 cs=some x):∃k:Int,cs=[.int .u64 k]∧Wd k:=by
 obtain⟨k,e0,_,w0⟩:=DataW.trod_int Tryz.underlying51 hf;exact⟨k,e0,bdz_u64 w0⟩
theorem rows_ofZ {α:Type}{vals:α→List Value}{k:Nat}:∀(L:List α) (cs:List Value),cs.length=L.length*k→(∀i (h:i<L.length),(cs.drop (i*k)).take k=vals L[i])→cs=L.flatMap vals
 |[],cs,hl,_=>by simpa using hl
 |y::L,cs,hl,h=>by
  have h0:=h 0 (by simp);simp only[Nat.zero_mul,List.drop_zero,List.getElem_cons_zero]at h0;rw[List.length_cons,Nat.add_mul]at hl;have ih:=rows_ofZ (vals:=vals) (k:=k) L (cs.drop k) (by rw[List.length_drop];omega) (fun i hi=>by
   have:=h (i+1) (by simpa using hi);rw[Nat.add_mul,Nat.one_mul]at this;rw[List.drop_drop,Nat.add_comm k];simpa using this)
  rw[List.flatMap_cons,←ih,←h0,List.take_append_drop]
theorem flat_one:∀L:List Int,L.flatMap (fun y=>[Value.int .u64 y])=L.map (Value.int .u64)
 |[]=>rfl
 |y::L=>by rw[List.flatMap_cons,flat_one L];rfl
theorem trod_regs {H:Type}{enc:TypeId×Value→H}{W:World}{spare:Nat→Bool}{held:Bool}{n:Nat}{cs:List Value}{x:DataW H×List MemPlace}
 (hf:DataW.trod enc Tryz.prog W 0 spare held n 68 cs=some x):∃r:Nat→Int,cs=regs r∧∀j,Wd (r j):=by
 obtain⟨xs,m,_,_,hl,hn,hx⟩:=DataW.trod_array Tryz.underlying68 hf;have k1:Tryz.prog.cellsOf 51=1:=by kernel_rfl
 have k16:Tryz.prog.cellsOf 68=16:=by kernel_rfl
 obtain⟨L,hL,hp⟩:=choosez (fun i y=>(cs.drop (i*1)).take 1=[Value.int .u64 y]∧Wd y) 16 (fun i hi=>by
  have hi':=hx i hi;rw[List.getElem?_eq_getElem (by omega),k1]at hi';obtain⟨z,e1,e2⟩:=trod_word hi';exact⟨z,e1,e2⟩)
 have e:=rows_ofZ (vals:=fun y=>[Value.int .u64 y]) (k:=1) L cs (by rw[hl,k16,hL]) (fun i hi=>(hp i hi).1);refine⟨fun j=>L.getD j 0,?_,fun j=>?_⟩
 ·rw[e];apply List.ext_getElem?;intro i;rw[flat_one];by_cases hi:i<16
  ·rw[regs_at _ i hi,List.getElem?_map,List.getElem?_eq_getElem (by omega)];simp[show i<L.length by omega]
  ·rw[List.getElem?_eq_none (by simp;omega),List.getElem?_eq_none (by rw[regs_len];omega)]
 ·by_cases hj:j<L.length
  ·have e:L.getD j 0=L[j]:=by simp[hj]
   show Wd (L.getD j 0);rw[e];exact(hp j hj).2
  ·show Wd (L.getD j 0);rw[show L.getD j 0=0 by simp[hj]];exact wd0
theorem trod_ent {H:Type}{enc:TypeId×Value→H}{W:World}{spare:Nat→Bool}{held:Bool}{n:Nat}{cs:List Value}{x:DataW H×List MemPlace}
 (hf:DataW.trod enc Tryz.prog W 0 spare held n 70 cs=some x):∃g:Rg,cs=g.vals∧∀j,Wd (g.r j):=by
 obtain⟨xs,m,_,hxx,hcl,hl,hx⟩:=DataW.trod_struct Tryz.underlying70 hf;have at_:∀i,i<4→∃y,xs[i]?=some y:=by
  intro i hi;have:i<xs.length:=by rw[hl];simpa using hi
  exact⟨xs[i],by simp[this]⟩
 have hcl':cs.length=19:=hcl.trans (by kernel_rfl);obtain⟨y0,t0⟩:=at_ 0 (by omega);rw[←hx 0 _ rfl]at t0;obtain⟨y1,t1⟩:=at_ 1 (by omega);rw[←hx 1 _ rfl]at t1;obtain⟨y2,t2⟩:=at_ 2 (by omega);rw[←hx 2 _ rfl]at t2;obtain⟨y3,t3⟩:=at_ 3 (by omega);rw[←hx 3 _ rfl]at t3;have q0:Tryz.prog.cellsOf 3=1:=by kernel_rfl
 have q1:Tryz.prog.cellsOf 68=16:=by kernel_rfl
 obtain⟨g,f0,_⟩:=DataW.trod_int Tryz.underlying3 t0;obtain⟨p,f1,_⟩:=DataW.trod_int Tryz.underlying3 t1;obtain⟨d,f2,_⟩:=DataW.trod_int Tryz.underlying3 t2;obtain⟨r,f3,hr⟩:=trod_regs t3;replace f0:(cs.drop 0).take (Tryz.prog.cellsOf 3)=[.int .i64 g]:=f0;replace f1:(cs.drop 1).take (Tryz.prog.cellsOf 3)=[.int .i64 p]:=f1;replace f2:(cs.drop 2).take (Tryz.prog.cellsOf 3)=[.int .i64 d]:=f2;replace f3:(cs.drop 3).take (Tryz.prog.cellsOf 68)=regs r:=f3;rw[q0]at f0 f1 f2;rw[q1]at f3;refine⟨⟨g,p,d,r⟩,?_,hr⟩
 match cs,hcl' with
 |c::c'::c''::cs,h'=>
  simp only[List.drop_zero,List.drop_succ_cons,List.take_succ_cons,List.take_zero,List.cons.injEq,and_true]at f0 f1 f2;simp only[List.drop_succ_cons,List.drop_zero]at f3;rw[List.take_of_length_le (by simp only[List.length_cons]at h';omega)]at f3;rw[f0,f1,f2,f3]
  rfl
theorem trod_prog {H:Type}{enc:TypeId×Value→H}{W:World}{spare:Nat→Bool}{held:Bool}{n:Nat}{cs:List Value}{x:DataW H×List MemPlace}
 (hf:DataW.trod enc Tryz.prog W 0 spare held n 25 cs=some x):∃(R:Rp) (ca:Option Addr) (cc:Nat) (ga:Option Addr) (gc:Nat) (mem:List UInt8),cs=[.slice ca R.code.length cc,.slice ga R.gates.length gc,.string (T.str mem),.int .i64 R.dep]∧RpIn W ca ga R∧R.Wds∧(Rows.uptoBulk x.1≤1048576→R.code.length≤1048575∧(∀r∈R.code,r.length≤2000000)∧R.gates.length≤2000000):=by
 obtain⟨xs,m,_,hxx,hcl,hl,hx⟩:=DataW.trod_struct Tryz.underlying25 hf;have at_:∀i,i<4→∃y,xs[i]?=some y:=by
  intro i hi;have:i<xs.length:=by rw[hl];simpa using hi
  exact⟨xs[i],by simp[this]⟩
 obtain⟨c0,c1,c2,c3,rfl⟩:=four_z (hcl.trans (show Tryz.prog.cellsOf 25=4 by kernel_rfl));obtain⟨y0,t0⟩:=at_ 0 (by omega);have u0:=t0;rw[←hx 0 _ rfl]at t0;obtain⟨y1,t1⟩:=at_ 1 (by omega);have u1:=t1;rw[←hx 1 _ rfl]at t1;obtain⟨y2,t2⟩:=at_ 2 (by omega);rw[←hx 2 _ rfl]at t2;obtain⟨y3,t3⟩:=at_ 3 (by omega);rw[←hx 3 _ rfl]at t3;have k1:Tryz.prog.cellsOf 22=1:=by kernel_rfl
 have k2:Tryz.prog.cellsOf 23=1:=by kernel_rfl
 have k3:Tryz.prog.cellsOf 9=1:=by kernel_rfl
 have k4:Tryz.prog.cellsOf 3=1:=by kernel_rfl
 obtain⟨ca,cc,C,e0,hC,hcb,_⟩:=open_rowsB (Q:=fun cs (r:List Ri)=>∃ra rc,cs=[.slice ra r.length rc]∧T.EIn 5 Ri.vals W ra r∧∀i∈r,i.Is) (Rg:=fun r=>r.length≤1048575) Tryz.underlying22 (show Tryz.prog.cellsOf 54=1 by kernel_rfl) (by omega) (fun _ _ _ h=>trod_row h) t0;obtain⟨ga,gc,G,e1,hG,hgb,_⟩:=open_rowsB (Q:=fun cs (g:Rg)=>cs=g.vals∧∀j,Wd (g.r j)) (Rg:=fun _=>True) Tryz.underlying23 (show Tryz.prog.cellsOf 70=19 by kernel_rfl) (by omega) (fun _ _ _ h=>by obtain⟨g,h1,h2⟩:=trod_ent h;exact⟨g,⟨h1,h2⟩,fun _=>trivial⟩) t1;obtain⟨z,e2,_,_⟩:=DataW.trod_string Tryz.underlying9 t2;obtain⟨d,e3,_,_⟩:=DataW.trod_int Tryz.underlying3 t3;simp[k1,k2,k3,k4]at e0 e1 e2 e3;subst e0 e1 e2 e3;refine⟨⟨C,G,d⟩,ca,cc,ga,gc,z.data.toList,rfl,⟨fun k hk=>?_,fun k hk=>?_⟩,⟨⟨fun r hr i hi=>?_⟩,fun g hg j=>?_⟩,fun hb=>?_⟩
 ·obtain⟨b,off,ha,hb,cs',⟨ra,rc,rfl,h1,_⟩,hc⟩:=hC k hk;exact⟨b,off,ra,rc,ha,hb,by have:=hc 0 (by omega);rw[Nat.mul_one,Nat.add_zero]at this;exact this,h1⟩
 ·obtain⟨b,off,ha,hb,cs',⟨rfl,_⟩,hc⟩:=hG k hk;refine⟨b,off,ha,hb,fun j v q=>?_⟩;have hj:=(List.getElem?_eq_some_iff.1 q).1;rw[Rg.len]at hj;rw[hc j hj,q]
 ·obtain⟨k,hk,rfl⟩:=List.getElem_of_mem hr;obtain⟨b,off,ha,hb,cs',⟨ra,rc,rfl,_,h2⟩,hc⟩:=hC k hk;exact h2 i hi
 ·obtain⟨k,hk,rfl⟩:=List.getElem_of_mem hg;obtain⟨b,off,ha,hb,cs',⟨rfl,h2⟩,hc⟩:=hG k hk;exact h2 j
 ·rw[hxx]at hb;simp only[Rows.uptoBulk]at hb;have m0:y0.1∈xs.map (·.1):=List.mem_map.2 ⟨y0,List.mem_of_getElem? u0,rfl⟩;have m1:y1.1∈xs.map (·.1):=List.mem_map.2 ⟨y1,List.mem_of_getElem? u1,rfl⟩;have b0:=bulkz_mem m0;have b1:=bulkz_mem m1;have r0:=hcb (by omega);have r1:=hgb (by omega);refine⟨r0.1,fun r hr=>Nat.le_trans (r0.2 r hr) (by omega),Nat.le_trans r1.1 (by omega)⟩
theorem slice_has {W:World}{r:Reach}{base:Nat}{t e:TypeId}{a:Addr}{len cap:Nat}(ht:Tryz.prog.underlying t=some (.slice e))(h:Value.okWide Tryz.prog W r base t (.slice (some a) len cap)):a.spot=none∧a.block<W.heap.size:=by
 simp only[Value.okWide,ht,Cell.okWide,Cell.ok]at h;obtain⟨_,_,_,h2,row,cells,h3,_⟩:=h;refine⟨h2,?_⟩;unfold World.shape? at h3;by_cases q:a.block<W.heap.size
 ·exact q
 ·rw[Array.getElem?_eq_none (by omega)]at h3
  cases h3
theorem open_words {H:Type}{enc:TypeId×Value→H}{W:World}{r:Reach}{base:Nat}{spare:Nat→Bool}{held:Bool}{a:Option Addr}{len cap:Nat}{d:DataW H}{ps:List MemPlace}
 (hv:Value.okWide Tryz.prog W r base 26 (.slice a len cap))(h:DataW.Trod enc Tryz.prog W 0 spare held 26 (.slice a len cap) d ps):∃L:List Int,L.length=len∧InL W a cap L∧(∀x∈L,Wd x)∧(Rows.uptoBulk d≤1048576→L.length≤1048575):=by
 obtain⟨fuel,hf⟩:=h;obtain⟨a2,cap2,L,e,hL,hr,hn⟩:=open_rowsB (Q:=fun cs (k:Int)=>cs=[Value.int .u64 k]∧Wd k) (Rg:=fun _=>True) Tryz.underlying26 (show Tryz.prog.cellsOf 51=1 by kernel_rfl) (by omega) (fun _ _ _ h=>by obtain⟨k,h1,h2⟩:=trod_word h;exact⟨k,⟨h1,h2⟩,fun _=>trivial⟩) hf;simp[Value.cells]at e;obtain⟨rfl,rfl,rfl⟩:=e;refine⟨L,rfl,?_,fun x hx=>?_,fun hb=>(hr hb).1⟩
 ·rcases hn with⟨h1,h2,h3⟩|⟨b,h1⟩
  ·exact .inl ⟨h1,h2,h3⟩
  ·subst h1;obtain⟨s1,s2⟩:=slice_has Tryz.underlying26 hv;obtain⟨b,off,sp⟩:=b;obtain rfl:sp=none:=s1;refine .inr ⟨b,off,rfl,s2,fun i hi=>?_⟩;obtain⟨b2,off2,ha,hb,cs',⟨rfl,_⟩,hc⟩:=hL i hi;injection ha with ha
   injection ha with q1 q2
   subst q1 q2;have:=hc 0 (by omega);rw[Nat.mul_one,Nat.add_zero]at this;exact this
 ·obtain⟨i,hi,rfl⟩:=List.getElem_of_mem hx;obtain⟨b,off,ha,hb,cs',⟨rfl,q⟩,hc⟩:=hL i hi;exact q
theorem open_prog {H:Type}{enc:TypeId×Value→H}{W:World}{r:Reach}{base:Nat}{spare:Nat→Bool}{held:Bool}{v:Value}{d:DataW H}{ps:List MemPlace}
 (hv:Value.okWide Tryz.prog W r base 25 v)(h:DataW.Trod enc Tryz.prog W 0 spare held 25 v d ps):
 ∃(R:Rp) (ca:Option Addr) (cc:Nat) (ga:Option Addr) (gc:Nat) (mem:List UInt8),v=.agg #[.slice ca R.code.length cc,.slice ga R.gates.length gc,.string (T.str mem),.int .i64 R.dep]∧RpIn W ca ga R∧R.Wds∧(Rows.uptoBulk d≤1048576→R.code.length≤1048575∧(∀r∈R.code,r.length≤2000000)∧R.gates.length≤2000000):=by
 obtain⟨cs,rfl,_⟩:=okWide_struct Tryz.underlying25 hv;obtain⟨fuel,hf⟩:=h;obtain⟨R,ca,cc,ga,gc,mem,e,hI,hw,hr⟩:=trod_prog hf;refine⟨R,ca,cc,ga,gc,mem,?_,hI,hw,hr⟩;obtain⟨l⟩:=cs;have e':l=_:=e;rw[e']
theorem bgn_of {W:World}{R:Rp}{ca ga:Option Addr}{mem:List UInt8}{A:List Int}{sa:Option Addr}{sc:Nat}{ia:Option Addr}{ic:Nat}{L:List Int}(h1:RpIn W ca ga R)(h2:R.Wds)(h3:R.code.length≤1048575∧(∀r∈R.code,r.length≤2000000)∧R.gates.length≤2000000)(hA:InL W sa sc A)(hAw:∀x∈A,Wd x)(hI:InL W ia ic L)(hLw:∀x∈L,Wd x)(hl:L.length≤1048575):Bgn W R ca ga mem A sa ia ic L:=
 ⟨h1,h2,hA.win,hAw,hI,hLw,Nat.le_trans h3.1 (by decide),h3.2.1,h3.2.2,Nat.le_trans hl (by decide)⟩
end Z
end Go.Proofs.YtdidjhillmgccaaGreat
