import Derived.Test.YtdidjhillmgccaaGreatTTags
namespace Go.Proofs.YtdidjhillmgccaaGreat
set_option maxRecDepth 100000
set_option maxHeartbeats 40000000
namespace T
open Go.RowKit
def str (l:List UInt8):ByteArray:=⟨l.toArray⟩
theorem str_size (s:List UInt8):(str s).size=s.length:=by simp[str,ByteArray.size]
theorem str_at (s:List UInt8)(i:Nat)(h:i<(str s).size)(h':i<s.length):(str s)[i]'h=s[i]:=by
 simp[str,ByteArray.getElem_eq_getElem_data]
theorem flat_zero (w:World):(zeroValue 119).run Tryz.prog w=.ok (.agg (Array.replicate 64 (.pointer none))) w:=by kernel_rfl
def layB (b:Nat→UInt8)(addr:Nat)(l:List UInt8):Nat→Nat→UInt8
 |0=>b
 |k+1=>upd (layB b addr l k) (addr+k) (l.getD k 0)
theorem lay_any (S:Nat→Prop)(a addr:Nat)(b:Nat→UInt8)(l:List UInt8)(w:World)(h:PgIn S w a b)(ha:addr+l.length≤65536):
 Calls Tryz.prog 50 #[.pointer (some ⟨a,0,none⟩),.int .u64 addr,.string (str l)] w fun x w'=>x=.returned (.tuple #[])∧∃S',PgIn S' w' a (layB b addr l l.length)∧Fr S S' w w' a:=by
 have ss:=str_size l;replace h:=Hid.mk h;go_enter Tryz.func50,Tryz.ntmps50;go_wp2_with fail;go_loopw [9] (fun i wr=>∃j:Nat,i=.int .i64 j∧j≤l.length∧∃S',PgIn S' wr a (layB b addr l j)∧Fr S S' w wr a) (fun i _=>l.length - (intOf i).toNat)
 case atStart=>exact⟨0,rfl,by omega,S,h.out,Fr.refl S w a⟩
 case round=>
  obtain⟨j,rfl,hj,S',h1,hf⟩:=hrel;by_cases hlt:j<l.length
  ·have jl:(j:Int)<l.length:=by omega
   have hk:=fun W q=>set_any S' a (addr+j) (layB b addr l j) l[j] W q (by omega)
   have hnx:layB b addr l (j+1)=upd (layB b addr l j) (addr+j) l[j]:=by rw[layB];simp[hlt]
   rw[←hnx,Int.natCast_add]at hk;unfold bv at hk;have m0:IntKind.u64.wrap ((addr:Int)+j)=(addr:Int)+j:=by rw[IntKind.wrap_u64];omega
   have m1:IntKind.u64.wrap (j:Int)=j:=by rw[IntKind.wrap_u64];omega
   have js:j<(str l).size:=by rw[str_size];exact hlt
   have ha:=str_at l j js hlt;generalize hb1:layB b addr l (j+1)=b1 at*;replace hb1:=Hid.mk hb1;clear hnx;replace hf:=Hid.mk hf;replace h1:=Hid.mk h1;go_wp2_with fail;refine(hk _ h1.out).mono ?_;rintro x w1 ⟨rfl,S1,h2,hf2⟩;replace h2:=Hid.mk h2;replace hf2:=Hid.mk hf2;go_wp2_with fail;exact⟨⟨j+1,by go_num,by omega,S1,by rw[hb1.out];exact h2.out,hf.out.trans hf2.out⟩,by simp[intOf];omega⟩
  ·have jl:¬(j:Int)<l.length:=by omega
   have:j=l.length:=by omega
   subst this;replace hf:=Hid.mk hf;replace h1:=Hid.mk h1;go_wp2_with fail;go_end0;exact⟨rfl,S',h1.out,hf.out⟩
theorem str_take (l:List UInt8)(n:Nat):(str l).extract 0 n=str (l.take n):=by
 unfold str;apply ByteArray.ext;simp[ByteArray.data_extract,List.extract_toArray,List.extract_eq_take_drop]
theorem lying_any (addr:Nat)(l:List UInt8)(w:World)(ha:addr<18446744073709551616)(hl:l.length≤140737488355328):
 Calls Tryz.prog 51 #[.int .u64 addr,.string (str l)] w fun x w'=>x=.returned (.string (str (l.take (65536 - addr))))∧w'=w:=by
 have ss:=str_size l;by_cases h:65536≤addr
 ·have d1:(65536:Int)≤addr:=by omega
  rw[show 65536 - addr=0 by omega,List.take_zero];go_enter Tryz.func51,Tryz.ntmps51;go_wp2_with fail;go_ret;exact⟨rfl,rfl⟩
 ·have d1:¬(65536:Int)≤addr:=by omega
  have e1:str (l.take (65536 - addr))=(str l).extract 0 (min (l.length:Int) (65536 - addr)).toNat:=by
   rw[str_take];by_cases q:l.length≤65536 - addr
   ·rw[show(min (l.length:Int) (65536 - addr)).toNat=l.length by omega,List.take_of_length_le q,List.take_of_length_le (Nat.le_refl _)]
   ·rw[show(min (l.length:Int) (65536 - addr)).toNat=65536 - addr by omega]
  rw[e1];clear e1;go_enter Tryz.func51,Tryz.ntmps51;go_wp2_with fail;go_ret;exact⟨rfl,rfl⟩
theorem Pg.fresh (w:World)(n:Nat)(t:TypeId)(hn:64≤n):Pg (fun _=>False) (w.alloc (.cells (Array.replicate n (.pointer none)) t)) w.heap.size (fun _=>none) (fun _=>0):=by
 have hA:=At.new w (Array.replicate n (.pointer none)) t;refine⟨hA.1,fun q=>q,fun k q=>q.elim,fun i hi=>⟨?_,hA.2.2 i⟩,fun i k _ q=>by simp at q,fun _ _ _ _ _=>rfl,fun i j k _ _ q=>by simp at q⟩;rw[hA.2.1,Array.getElem?_replicate,if_pos (by omega)]
 rfl
theorem FlIn.fresh (w:World)(t:TypeId):FlIn (fun k=>k=w.heap.size) (w.alloc (.cells (Array.replicate 64 (.pointer none)) t)) w.heap.size (fun _=>0):=
 ⟨fun _=>False,⟨_,Pg.fresh w 64 t (by omega)⟩,fun k=>by simp⟩
theorem newFlat_any (l:List UInt8)(w:World)(hl:l.length≤140737488355328):
 Calls Tryz.prog 23 #[.string (str l)] w fun x w'=>x=.returned (.pointer (some ⟨w.heap.size,0,none⟩))∧∃S,FlIn S w' w.heap.size (layB (fun _=>0) 0 (l.take 65536) (l.take 65536).length)∧(∀k,S k→w.heap.size≤k)∧Below w.heap.size w w':=by
 have tz:=flat_zero;have hT:=FlIn.fresh w 119;have hY:=fun W=>lying_any 0 l W (by omega) hl
 have hL:=fun W (q:FlIn (fun k=>k=w.heap.size) W w.heap.size (fun _=>0))=>q.onBytes fun P hP=>lay_any P w.heap.size 0 (fun _=>0) (l.take 65536) W hP (by rw[List.length_take];omega)
 rw[Nat.sub_zero]at hY;simp only[Int.natCast_zero]at hY hL;generalize hb:layB (fun _=>0) 0 (l.take 65536) (l.take 65536).length=b1 at*;generalize l.take 65536=l1 at*;have hL':=hL _ (hT.gr (Below.drew (Below.refl _ _)));have sz:(w.alloc (.cells (Array.replicate 64 (.pointer none)) 119)).heap.size=w.heap.size+1:=by simp
 replace hT:=Hid.mk hT;replace hb:=Hid.mk hb;clear hL;go_enter Tryz.func23,Tryz.ntmps23;go_wp2_with fail;go_region_with (first|(go_at_call 51;refine(hY _).mono ?_;rintro x w1 ⟨rfl,rfl⟩)|(go_at_call 50;refine hL'.mono ?_;rintro x w2 ⟨rfl,S2,h2,f2⟩;replace h2:=Hid.mk h2;replace f2:=Hid.mk f2))
 all_goals
  go_wp2_with fail;go_ret;refine⟨rfl,S2,h2.out,fun k q=>?_,(Below.drew ((Below.refl _ w).alloc (Nat.le_refl _) _)).trans (f2.out.kp.below (by simp) (fun k q=>by omega))⟩;rcases f2.out.new k q with r|r
  ·omega
  ·simp at r;omega
end T
end Go.Proofs.YtdidjhillmgccaaGreat
