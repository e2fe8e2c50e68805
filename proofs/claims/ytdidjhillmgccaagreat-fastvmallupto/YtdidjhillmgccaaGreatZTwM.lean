import Derived.Test.YtdidjhillmgccaaGreatRRow0
import Derived.Test.YtdidjhillmgccaaGreatP15
import Derived.Laws.MakeOwn
import Derived.Laws.IdiomCopy
namespace Go.Proofs.YtdidjhillmgccaaGreat
namespace Z
open Go.RowKit
def FInZ {α:Type}(n:Nat)(vals:α→List Value)(w:World)(a:Option Addr)(L:List α):Prop:=
 ∀i (h:i<L.length),∃b off:Nat,a=some ⟨b,off,none⟩∧∀j,j<n→w.cell? ⟨b,off+i*n+j,none⟩=(vals L[i])[j]?
theorem made_k {α:Type}{vals:α→List Value}{k:Nat}(hk:0<k)(hv:∀x,(vals x).length=k)(Z:α)(n:Nat):madeCells (vals Z).toArray (n*k)=(rowV [] vals (List.replicate n Z)).toArray:=by
 apply Array.ext_getElem?;intro i;have e:(rowV [] vals (List.replicate n Z)).toArray[i]?=(rowV [] vals (List.replicate n Z))[i]?:=by simp
 rw[e];have hl:=row_len (pre:=[]) hv (List.replicate n Z);rw[List.length_replicate]at hl;by_cases h:i<n*k
 ·have hd:i/k<n:=by rw[Nat.div_lt_iff_lt_mul hk];exact h
  have hm:=Nat.mod_lt i hk;have ei:i=([]:List Value).length+i/k*k+i%k:=by
   have:=Nat.div_add_mod i k;rw[Nat.mul_comm]at this;simp;omega
  have r:=row_at (pre:=[]) hv (List.replicate n Z) (i/k) (by simpa using hd) (i%k) hm;rw[←ei]at r;rw[r];have hz:i%k<(vals Z).length:=by rw[hv];exact hm
  simp[madeCells,h,hv];rw[List.getElem?_eq_getElem hz]
  rfl
 ·rw[Array.getElem?_eq_none (by rw[size_madeCells];omega),List.getElem?_eq_none (by rw[hl];simp;omega)]
theorem info_partsQ {t:TypeId}{z:Value}{s b:Nat}(h:(Tryz.prog.info? t).map (fun i=>(i.zero,i.size,i.bytes))=some (some z,s,b)):
 ∃i,Tryz.prog.info? t=some i∧i.zero=some z∧i.size=s∧i.bytes=b:=by
 obtain⟨i,hi,he⟩:=Option.map_eq_some_iff.1 h;simp only[Prod.mk.injEq]at he;exact⟨i,hi,he.1,he.2.1,he.2.2⟩
theorem make_k {α:Type}{vals:α→List Value}{t e:TypeId}{k b:Nat}{Z:α}(hk:0<k)(hv:∀x,(vals x).length=k)(ht:Tryz.prog.underlying t=some (.slice e))
 (hi:(Tryz.prog.info? e).map (fun i=>(i.zero,i.size,i.bytes))=some (some (.agg (vals Z).toArray),k,b))(n:Nat)(hn:n≤4611686018427387904)(hb:b*n≤281474976710656)(w:World):
 (Instr.makeSlice t (.int .i64 n) (.int .i64 n)).run Tryz.prog w=.ok (.slice (some ⟨w.heap.size,0,none⟩) n n) (w.alloc (.cells (rowV [] vals (List.replicate n Z)).toArray e)):=by
 obtain⟨i0,hi0,hz0,hz1,hz2⟩:=info_partsQ hi;have hbb:(i0.bytes:Int)*(n:Int)≤281474976710656:=by
  rw[hz2];have h:((b*n:Nat):Int)≤281474976710656:=by omega
  rwa [Int.natCast_mul]at h
 have h:=run_make (P:=Tryz.prog) w t e i0 _ ht hi0 hz0 .i64 .i64 n n (by omega) (by omega) hbb (by omega);rw[hz1,Int.toNat_natCast,show(Value.agg (vals Z).toArray).cells=(vals Z).toArray from rfl,made_k hk hv]at h;exact h
theorem run_copy_none {P:Program}(w:World)(dT sT ty elem:TypeId)(k:Nat)(d:Addr)(dLen dCap sCap:Nat)(hu:P.underlying dT=some (.slice elem))(hs:(P.info? elem).map (·.size)=some k):
 (Builtin.copy_ #[dT,sT] ty #[.slice (some d) dLen dCap,.slice none 0 sCap]).run P w=.ok (goInt 0) w:=by
 cases hq:P.info? elem with
 |none=>simp[hq]at hs
 |some i=>simp[Builtin.copy_,run_underlying hu,Builtin.lenOf,Builtin.firstCells,sizeOf,typeInfo,hq,storeCells]
theorem run_copy_q {P:Program}(w:World)(dT sT ty elem:TypeId)(k b o dLen dCap:Nat)(a:Addr)(sLen sCap:Nat)(cs:List Value)
 (hu:P.underlying dT=some (.slice elem))(hs:(P.info? elem).map (·.size)=some k)(hn:cs.length=Nat.min sLen dLen*k)
 (hsrc:∀j v,cs[j]?=some v→w.cell? (a.add j)=some v)(hc:∀j,j<cs.length→(w.cell? ⟨b,o+j,none⟩).isSome=true)(hf:∀j,j<cs.length→w.frozen? ⟨b,o+j,none⟩=false)(h1:∀v∈cs,v.oneCell'=true):
 (Builtin.copy_ #[dT,sT] ty #[.slice (some ⟨b,o,none⟩) dLen dCap,.slice (some a) sLen sCap]).run P w=.ok (goInt (Nat.min sLen dLen)) (w.setCells b o cs):=by
 have hl:=run_loadCells_list (P:=P) w a cs hsrc;have hst:=run_storeCells_cells (P:=P) b o cs 0 w (by simpa using hc) (by simpa using hf) h1
 cases hq:P.info? elem with
 |none=>simp[hq]at hs
 |some i=>
  have hi:i.size=k:=by simpa [hq]using hs
  simp[Builtin.copy_,run_underlying hu,Builtin.lenOf,Builtin.firstCells,sizeOf,typeInfo,hq,hi,←hn,hl,hst]
theorem copy_rows {α:Type}{vals:α→List Value}{k:Nat}(hk:0<k)(hv:∀x,(vals x).length=k)(h1:∀x,∀v∈vals x,v.oneCell'=true){w:World}{g:Nat}{l L:List α}{a:Option Addr}{c:Nat}{t e:TypeId}(ty:TypeId)(ht:Tryz.prog.underlying t=some (.slice e))(hi:(Tryz.prog.info? e).map (·.size)=some k)
 (h:At w g (rowV [] vals l).toArray)(hL:FInZ k vals w a L)(hl:L.length≤l.length):
 (Builtin.copy_ #[t,t] ty #[.slice (some ⟨g,0,none⟩) l.length l.length,.slice a L.length c]).run Tryz.prog w=.ok (goInt L.length) (w.setCells g 0 (L.flatMap vals))∧At (w.setCells g 0 (L.flatMap vals)) g (rowV [] vals (L++l.drop L.length)).toArray:=by
 have e1:=flat_len hv L;have e2:=row_len (pre:=[]) hv l;have e3:=row_len (pre:=[]) hv (L++l.drop L.length);have hle:L.length*k≤l.length*k:=Nat.mul_le_mul_right k hl
 constructor
 ·cases a with
  |none=>
   have e0:L=[]:=by
    cases L with
    |nil=>rfl
    |cons x L=>obtain⟨b,off,q,_⟩:=hL 0 (by simp);cases q
   subst e0;exact run_copy_none w t t ty e k _ _ _ _ ht hi
  |some ad=>
   have hmin:Nat.min L.length l.length=L.length:=Nat.min_eq_left hl;have:=run_copy_q (P:=Tryz.prog) w t t ty e k g 0 l.length l.length ad L.length c (L.flatMap vals) ht hi (by rw[hmin];exact e1) (fun j v hj=>?_) (fun j hj=>?_) (fun j hj=>h.2.2 _) (fun v hv'=>?_)
   ·rw[hmin]at this;exact this
   ·have hjl:j<L.length*k:=by rw[←e1];exact(List.getElem?_eq_some_iff.1 hj).1
    have hd:j/k<L.length:=by rw[Nat.div_lt_iff_lt_mul hk];exact hjl
    have hm:=Nat.mod_lt j hk;obtain⟨b,off,q,hc⟩:=hL (j/k) hd
    cases q
    have ej:j=j/k*k+j%k:=by
     have:=Nat.div_add_mod j k;rw[Nat.mul_comm]at this;omega
    have r:=flat_at' hv L (j/k) hd (j%k) hm;rw[←ej,hj]at r;rw[addr_addZ,show off+j=off+j/k*k+j%k by omega,hc _ hm,←r]
   ·rw[h.2.1,List.getElem?_toArray,List.getElem?_eq_getElem (by omega)]
    rfl
   ·obtain⟨x,_,hx⟩:=List.mem_flatMap.1 hv';exact h1 x v hx
 ·refine h.setRange 0 (L.flatMap vals) ?_ (by omega) (fun j hj=>?_) (fun i hi=>?_)
  ·rw[e3,e2,List.length_append,List.length_drop,show L.length+(l.length - L.length)=l.length by omega]
  ·unfold rowV;rw[Nat.zero_add,List.nil_append,List.flatMap_append,List.getElem?_append_left hj]
  ·have hi':L.length*k≤i:=by omega
   unfold rowV;rw[List.nil_append,List.nil_append,List.flatMap_append,List.getElem?_append_right (by omega)];have es:l.flatMap vals=(l.take L.length).flatMap vals++(l.drop L.length).flatMap vals:=by rw[←List.flatMap_append,List.take_append_drop]
   have et:=flat_len hv (l.take L.length);rw[List.length_take,Nat.min_eq_left hl]at et;rw[es,List.getElem?_append_right (by omega),et,e1]
end Z
end Go.Proofs.YtdidjhillmgccaaGreat
