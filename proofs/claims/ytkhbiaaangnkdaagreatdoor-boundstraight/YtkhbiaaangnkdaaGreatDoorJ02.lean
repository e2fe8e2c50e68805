import Derived.Test.YtkhbiaaangnkdaaGreatDoorChecked
import Derived.Test.YtkhbiaaangnkdaaGreatDoorJ01
import Derived.WalkKit
import Derived.WalkSpells
import Derived.WalkLawsBesides
import Derived.Laws.Shifts
import Derived.Lib.OthersKept
import Derived.Deep.DeepCutAuto
import Derived.Deep.Light
import Derived.Test.YtkhbiaaangnkdaaGreatDoorRows
import Derived.ProofKit
import Derived.OpenShut
import Derived.ChangeOld
import Derived.LaidMore
import Derived.Deep.DeepHandedRow
import Derived.Lib.LaidTab
import Derived.Deep.AppendLies
namespace Go.Proofs.YtkhbiaaangnkdaaGreatDoor
set_option maxRecDepth 100000
set_option maxHeartbeats 40000000
open Go.RowKit
structure TabIn (w:World):Prop where
 size:2≤w.heap.size
 name:∀i:Nat,i<76→w.cell? ⟨0,i,none⟩=some (.string (str (nameL.getD i [])))
 shape:∀i:Nat,i<76→w.cell? ⟨1,i,none⟩=some (.string (str (shapeL.getD i [])))
theorem TabIn.below {w w':World}{n:Nat}(h:TabIn w)(hb:Below n w w')(hn:2≤n):TabIn w':=
 ⟨Nat.le_trans h.size hb.size,fun i hi=>(hb.cell (p:=⟨0,i,none⟩) (show 0<n by omega)).trans (h.name i hi),fun i hi=>(hb.cell (p:=⟨1,i,none⟩) (show 1<n by omega)).trans (h.shape i hi)⟩
theorem TabIn.gr {w w':World}(h:TabIn w)(hb:Gr w w'):TabIn w':=h.below hb.below h.size
theorem TabIn.nameAt {w:World}(h:TabIn w)(op:Int)(h0:0≤op)(h1:op<76):w.cell? ⟨0,op.toNat,none⟩=some (.string (str (nameOf op))):=h.name op.toNat (by omega)
theorem TabIn.shapeAt {w:World}(h:TabIn w)(op:Int)(h0:0≤op)(h1:op<76):w.cell? ⟨1,op.toNat,none⟩=some (.string (str (shapeOf op))):=h.shape op.toNat (by omega)
theorem nameOf_past (op:Int)(h:76≤op):nameOf op=[]:=by
 unfold nameOf;rw[List.getD_eq_getElem?_getD,List.getElem?_eq_none (by rw[nameL_len];omega)];rfl
theorem shapeOf_past (op:Int)(h:76≤op):shapeOf op=[]:=by
 unfold shapeOf;rw[List.getD_eq_getElem?_getD,List.getElem?_eq_none (by rw[shapeL_len];omega)];rfl
theorem str_nil:str []=⟨#[]⟩:=rfl
theorem Name_any (op:Int)(w:World)(ht:TabIn w)(h0:0≤op)(h1:op<256):
 Calls Tryz.prog 129 #[.int .u8 op] w fun x w'=>x=.returned (.string (str (nameOf op)))∧w=w':=by
 by_cases h:76≤op
 ·rw[nameOf_past op h,str_nil];go_enter Tryz.func129,Tryz.ntmps129;go_wp2_with fail;go_ret;exact⟨rfl,rfl⟩
 ·have c:=ht.nameAt op h0 (by omega);have h':decide (76≤op)=false:=by simpa using h
  have h2:op<76:=by omega
  go_enter Tryz.func129,Tryz.ntmps129;go_wp2_with fail;go_ret;exact⟨rfl,rfl⟩
theorem Shape_any (op:Int)(w:World)(ht:TabIn w)(h0:0≤op)(h1:op<256):
 Calls Tryz.prog 159 #[.int .u8 op] w fun x w'=>x=.returned (.string (str (shapeOf op)))∧w=w':=by
 by_cases h:76≤op
 ·rw[shapeOf_past op h,str_nil];go_enter Tryz.func159,Tryz.ntmps159;go_wp2_with fail;go_ret;exact⟨rfl,rfl⟩
 ·have c:=ht.shapeAt op h0 (by omega);have h':decide (76≤op)=false:=by simpa using h
  have h2:op<76:=by omega
  go_enter Tryz.func159,Tryz.ntmps159;go_wp2_with fail;go_ret;exact⟨rfl,rfl⟩
def regNo (n:Int):Nat:=if n=0 then 1 else if n=1 then 2 else 3
theorem register_any (k:Nat)(n:Int)(w:World):
 Calls Tryz.prog 160 #[.pointer (some ⟨k,0,none⟩),.int .i64 n] w fun x w'=>x=.returned (.pointer (some ⟨k,regNo n,none⟩))∧w=w':=by
 go_enter Tryz.func160,Tryz.ntmps160;go_wp2_with fail
 all_goals go_ret
 all_goals go_light
 all_goals simp_all [regNo]
theorem ends_any (op l:Int)(w:World):
 Calls Tryz.prog 161 #[.int .u8 op,.int .i32 l] w fun x w'=>x=.returned (.tuple #[.int .i64 (loE op l),.int .i64 (hiE l)])∧w=w':=by
 go_enter Tryz.func161,Tryz.ntmps161;go_wp2_with fail
 all_goals simp [bodyPost,results,Tryz.results161,go_sem]
 all_goals go_light
 all_goals simp_all [loE,hiE]
open Go.ChangeShapes Go.WideShapes Go.ChangeAt Go.RowKit
theorem own:ownKnob Tryz.prog.godebug=none:=by kernel_rfl
theorem laidOut:laidOutB Tryz.prog=true:=by kernel_rfl
theorem gNames:Tryz.prog.globalNamed "paddock/instr.names" =some 0:=by kernel_rfl
theorem gShapes:Tryz.prog.globalNamed "paddock/instr.shapes" =some 1:=by kernel_rfl
theorem tNames:(Tryz.prog.globals[0]?).map (·.type)=some 240:=by kernel_rfl
theorem tShapes:(Tryz.prog.globals[1]?).map (·.type)=some 240:=by kernel_rfl
theorem cellsTab:Tryz.prog.cellsOf 240=76:=by kernel_rfl
theorem cellsStr:Tryz.prog.cellsOf 9=1:=by kernel_rfl
def strTab {H:Type}(l:List (List UInt8)):DataW H:=.agg (l.map fun b=>.lit (.string b))
theorem cells_of_strTab {H:Type}{enc:TypeId×Value→H}{P:Program}{w:World}{base:Nat}{sp:Nat→Bool}{held:Bool}{fuel:Nat}{t e:TypeId}{n:Nat}{cs:List Value}{zs:List (List UInt8)}{p:List MemPlace}
 (ht:P.underlying t=some (.array n e))(he:P.underlying e=some .string)(hce:P.cellsOf e=1)(hct:P.cellsOf t=n)
 (h:DataW.trod enc P w base sp held fuel t cs=some (strTab zs,p)):cs=zs.map fun z=>Value.string (str z):=by
 cases fuel with
 |zero=>simp[DataW.trod]at h
 |succ fuel=>
  simp only[DataW.trod,ht,hce,hct,Nat.mul_one]at h
  split at h
  ·rename_i hl
   obtain⟨xs,hm,hx⟩:=Option.map_eq_some_iff.1 h;have hxs:xs.map (·.1)=zs.map fun z=>(DataW.lit (.string z):DataW H):=by
    have:=congrArg Prod.fst hx;simpa [strTab]using this
   have hxl:xs.length=n:=by simpa using Lib.mapM_length hm
   have hzl:zs.length=n:=by
    have:=congrArg List.length hxs;simp at this;omega
   apply List.ext_getElem?;intro i;by_cases hi:i<n
   ·obtain⟨b,hb,hf⟩:=Lib.mapM_at hm i i (by simp[hi]);obtain⟨z,hc,rfl,_⟩:=DataW.trod_string he hf;have h1:cs[i]?=some (.string z):=by
     have:=congrArg (·[0]?) hc;simpa [List.getElem?_take,List.getElem?_drop]using this
    have h2:(xs.map (·.1))[i]?=some (DataW.lit (.string z.data.toList):DataW H):=by simp[hb]
    rw[hxs]at h2;simp only[List.getElem?_map,Option.map_eq_some_iff,DataW.lit.injEq,Lit.string.injEq]at h2;obtain⟨z',hz',rfl⟩:=h2;simp[h1,hz',str]
   ·rw[List.getElem?_eq_none (by omega),List.getElem?_eq_none (by simp;omega)]
  ·cases h
theorem tab_of_laid {W:World}(h:laidMetH Tryz.prog [("paddock/instr.names",Rows.laid_paddock_instr_names),("paddock/instr.shapes",Rows.laid_paddock_instr_shapes)] W):TabIn W:=by
 rw[MakeChecks.laidMetH_plain _ _ _ (by kernel_rfl)]at h;obtain⟨ps,⟨g0,t0,cs0,f0,p0,q0,hg0,ht0,hv0,hd0,⟨g1,t1,cs1,f1,p1,q1,hg1,ht1,hv1,hd1,_,_⟩,_⟩,_,_⟩:=h;obtain rfl:=Option.some.inj (gNames.symm.trans hg0);obtain rfl:=Option.some.inj (gShapes.symm.trans hg1);obtain rfl:=Option.some.inj (tNames.symm.trans ht0);obtain rfl:=Option.some.inj (tShapes.symm.trans ht1);have e0:(Rows.laid_paddock_instr_names:DataW Unit)=strTab nameL:=by kernel_rfl
 have e1:(Rows.laid_paddock_instr_shapes:DataW Unit)=strTab shapeL:=by kernel_rfl
 rw[e0]at hd0;rw[e1]at hd1;have c0:=cells_of_strTab Tryz.underlying240 Tryz.underlying9 cellsStr cellsTab hd0;have c1:=cells_of_strTab Tryz.underlying240 Tryz.underlying9 cellsStr cellsTab hd1;have n:∀i:Nat,i<76→W.cell? ⟨0,i,none⟩=some (.string (str (nameL.getD i []))):=fun i hi=>by
  have:=World.var?_cell hg0 hv0 i;have hl:i<nameL.length:=by rw[nameL_len];exact hi
  have e:cs0[i]?=cs0.toList[i]?:=by simp
  rw[this,e,c0];simp[hl]
 have s:∀i:Nat,i<76→W.cell? ⟨1,i,none⟩=some (.string (str (shapeL.getD i []))):=fun i hi=>by
  have:=World.var?_cell hg1 hv1 i;have hl:i<shapeL.length:=by rw[shapeL_len];exact hi
  have e:cs1[i]?=cs1.toList[i]?:=by simp
  rw[this,e,c1];simp[hl]
 exact⟨World.block_lt_of_cell? W _ (s 0 (by omega)),n,s⟩
theorem bd_i64 {n:Int}(h:(Lit.int .i64 n).wf=true): -9223372036854775808≤n∧n<9223372036854775808:=by
 have:=bounds_i64 h;omega
structure Hid (p:Prop):Prop where
 out:p
theorem ret_bool {a b:Bool}(h:a=b):Ending.returned (.bool a)=.returned (.bool b):=by rw[h]
theorem letters_small (s:List UInt8)(hs:s∈shapes):s.length≤3∧∀l∈s,l.toNat<128:=by
 have:shapes.all (fun s=>decide (s.length≤3)&&s.all fun l=>decide (l.toNat<128))=true:=by kernel_rfl
 have:=List.all_eq_true.1 this s hs;simp only[Bool.and_eq_true,decide_eq_true_eq,List.all_eq_true]at this;exact this
theorem str_size (s:List UInt8):(str s).size=s.length:=by simp[str,ByteArray.size]
theorem str_at (s:List UInt8)(i:Nat)(h:i<(str s).size)(h':i<s.length):(str s)[i]'h=s[i]:=by
 simp[str,ByteArray.getElem_eq_getElem_data]
theorem next_str (w:World)(ob:Obj)(s:List UInt8)(pos:Nat)(ty:TypeId)(h:pos<s.length)(ha:∀l∈s,l.toNat<128):
 (Instr.next (.pointer (some ⟨w.heap.size+1,0,none⟩)) true ty).run Tryz.prog ((w.alloc ob).alloc (.stringIter (str s) pos))=.ok (.tuple #[.bool true,.int .i64 pos,.int .i32 (s[pos]'h).toNat]) ((w.alloc ob).alloc (.stringIter (str s) (pos+1))):=by
 have h1:pos<(str s).size:=by rw[str_size];exact h
 have:=run_next_ascii (P:=Tryz.prog) (w.alloc ob) (str s) pos ty h1 (by rw[str_at s pos h1 h];exact ha _ (List.getElem_mem h))
 rwa [str_at s pos h1 h,World.size_alloc]at this
theorem next_str_end (w:World)(ob:Obj)(s:List UInt8)(pos:Nat)(ty:TypeId)(h:¬pos<s.length):
 (Instr.next (.pointer (some ⟨w.heap.size+1,0,none⟩)) true ty).run Tryz.prog ((w.alloc ob).alloc (.stringIter (str s) pos))=.ok (.tuple #[.bool false]) ((w.alloc ob).alloc (.stringIter (str s) pos)):=by
 have:=run_next_end (P:=Tryz.prog) (w.alloc ob) (str s) pos ty (by rw[str_size];exact h)
 rwa [World.size_alloc]at this
theorem iterPos_at (w:World)(ob:Obj)(s:ByteArray)(pos:Nat):((w.alloc ob).alloc (.stringIter s pos)).iterPos (w.heap.size+1)=pos:=by
 have:=(MapKept.heap_alloc (w.alloc ob) (.stringIter s pos)).1;rw[World.size_alloc]at this;unfold World.iterPos;rw[this]
theorem out_lo {op l x:Int}{b:Bool}(h:x<loE op l):false=(inE op l x&&b):=by
 have:¬loE op l≤x:=by omega
 simp[inE,this]
theorem out_hi {op l x:Int}{b:Bool}(h:hiE l<x):false=(inE op l x&&b):=by
 have:¬x≤hiE l:=by omega
 simp[inE,this]
theorem in_e {op l x:Int}{b:Bool}(h:¬x<loE op l)(h':¬hiE l<x):(inE op l x&&b)=b:=by
 have h1:loE op l≤x:=by omega
 have h2:x≤hiE l:=by omega
 simp[inE,h1,h2]
theorem fR_r0 (op:Int)(l:UInt8)(r:List UInt8)(n a b c m:Int)(hl:(l.toNat:Int)=114)(hn:n=0):fR op (l::r) n a b c m=(inE op l.toNat a&&fR op r (n+1) 0 b c m):=by
 rw[fR,if_pos hl,if_pos hn]
theorem fR_r1 (op:Int)(l:UInt8)(r:List UInt8)(n a b c m:Int)(hl:(l.toNat:Int)=114)(hn:n=1):fR op (l::r) n a b c m=(inE op l.toNat b&&fR op r (n+1) a 0 c m):=by
 rw[fR,if_pos hl,if_neg (by omega),if_pos hn]
theorem fR_r2 (op:Int)(l:UInt8)(r:List UInt8)(n a b c m:Int)(hl:(l.toNat:Int)=114)(hn:n≠0)(hn1:n≠1):fR op (l::r) n a b c m=(inE op l.toNat c&&fR op r (n+1) a b 0 m):=by
 rw[fR,if_pos hl,if_neg hn,if_neg hn1]
theorem fR_c (op:Int)(l:UInt8)(r:List UInt8)(n a b c m:Int)(hl:(l.toNat:Int)=99)(h:op≠28):fR op (l::r) n a b c m=(inE op l.toNat c&&fR op r n a b 0 m):=by
 rw[fR,if_neg (by omega),if_pos ⟨hl,h⟩]
theorem fR_m (op:Int)(l:UInt8)(r:List UInt8)(n a b c m:Int)(hl:(l.toNat:Int)≠114)(h:¬((l.toNat:Int)=99∧op≠28)):fR op (l::r) n a b c m=(inE op l.toNat m&&fR op r n a b c 0):=by
 rw[fR,if_neg hl,if_neg h]
theorem drop_cons {s r:List UInt8}{pos:Nat}(h:s.drop pos=r)(hp:pos<s.length):∃r',r=s[pos]::r'∧s.drop (pos+1)=r':=by
 rw[List.drop_eq_getElem_cons hp]at h;exact⟨_,h.symm,rfl⟩
theorem fieldsRight_any (op a b c m:Int)(w:World)(ht:TabIn w)(h0:0≤op)(h1:op<256):
 Calls Tryz.prog 130 #[.agg #[.int .u8 op,.int .i64 a,.int .i64 b,.int .i64 c,.int .i64 m]] w fun x w'=>x=.returned (.bool (fR op (shapeOf op) 0 a b c m))∧Gr w w':=by
 have hsh:=Shape_any op (w.alloc (.cells #[.int .u8 op,.int .i64 a,.int .i64 b,.int .i64 c,.int .i64 m] 29)) (ht.gr ((Gr.refl w).alloc _)) h0 h1;obtain⟨hl3,hasc⟩:=letters_small _ (shape_in op h1);generalize shapeOf op=s at hsh hl3 hasc;replace hasc:=Hid.mk hasc;clear ht;go_enter Tryz.func130,Tryz.ntmps130;go_wp2_with(go_at_call 159;refine hsh.mono ?_;rintro x w' ⟨rfl,rfl⟩);clear hsh;go_loopw [3] (fun n w'=>∃(pos:Nat) (r:List UInt8) (n0 a1 b1 c1 m1:Int),n=.int .i64 n0∧0≤n0∧n0≤pos∧pos≤s.length∧w'=(w.alloc (.cells #[.int .u8 op,.int .i64 a1,.int .i64 b1,.int .i64 c1,.int .i64 m1] 29)).alloc (.stringIter (str s) pos)∧Hid (s.drop pos=r)∧Hid (fR op r n0 a1 b1 c1 m1=fR op s 0 a b c m)) (fun _ w'=>s.length - w'.iterPos (w.heap.size+1))
 case atStart=>exact⟨0,s,0,a,b,c,m,rfl,by omega,by omega,by omega,rfl,⟨rfl⟩,⟨rfl⟩⟩
 case round=>
  obtain⟨pos,r,n0,a1,b1,c1,m1,rfl,hn0,hnp,hp,rfl,hr,hf⟩:=hrel;by_cases hlt:pos<s.length
  ·obtain⟨r',rfl,hr'⟩:=drop_cons hr.out hlt;have hnx:=fun ty=>next_str w (.cells #[.int .u8 op,.int .i64 a1,.int .i64 b1,.int .i64 c1,.int .i64 m1] 29) s pos ty hlt hasc.out
   clear hr;generalize s[pos]=l at hf hnx;by_cases hl:(l.toNat:Int)=114
   ·have q1:((l.toNat:Int)==114)=true:=by simpa using hl
    by_cases hz:n0=0
    ·have rn:regNo n0=1:=by simp[regNo,hz]
     have st:=fR_r0 op l r' n0 a1 b1 c1 m1 hl hz;rw[st]at hf;clear st;generalize (l.toNat:Int)=L at*;replace hl:=Hid.mk hl;replace hz:=Hid.mk hz;by_cases g1:a1<loE op L
     ·have g2:decide (a1<loE op L)=true:=by simpa using g1
      go_wp2_with(first|(go_at_call 160;refine(register_any _ _ _).mono ?_;rintro x w' ⟨rfl,rfl⟩)|(go_at_call 161;refine(ends_any _ _ _).mono ?_;rintro x w' ⟨rfl,rfl⟩));go_ret;exact⟨ret_bool ((out_lo g1).trans hf.out),((Gr.refl w).alloc _).alloc _⟩
     ·have g2:decide (a1<loE op L)=false:=by simpa using g1
      by_cases g3:hiE L<a1
      ·have g4:decide (hiE L<a1)=true:=by simpa using g3
       go_wp2_with(first|(go_at_call 160;refine(register_any _ _ _).mono ?_;rintro x w' ⟨rfl,rfl⟩)|(go_at_call 161;refine(ends_any _ _ _).mono ?_;rintro x w' ⟨rfl,rfl⟩));go_ret;exact⟨ret_bool ((out_hi g3).trans hf.out),((Gr.refl w).alloc _).alloc _⟩
      ·have g4:decide (hiE L<a1)=false:=by simpa using g3
       rw[in_e g1 g3]at hf;go_wp2_with(first|(go_at_call 160;refine(register_any _ _ _).mono ?_;rintro x w' ⟨rfl,rfl⟩)|(go_at_call 161;refine(ends_any _ _ _).mono ?_;rintro x w' ⟨rfl,rfl⟩));go_roundw
       case rel=>exact⟨pos+1,r',n0+1,0,b1,c1,m1,rfl,by omega,by omega,by omega,rfl,⟨hr'⟩,hf⟩
       case measure=>rw[iterPos_at,iterPos_at];omega
    ·by_cases ho:n0=1
     ·have rn:regNo n0=2:=by simp[regNo,ho]
      have st:=fR_r1 op l r' n0 a1 b1 c1 m1 hl ho;rw[st]at hf;clear st;generalize (l.toNat:Int)=L at*;replace hl:=Hid.mk hl;replace hz:=Hid.mk hz;replace ho:=Hid.mk ho;by_cases g1:b1<loE op L
      ·have g2:decide (b1<loE op L)=true:=by simpa using g1
       go_wp2_with(first|(go_at_call 160;refine(register_any _ _ _).mono ?_;rintro x w' ⟨rfl,rfl⟩)|(go_at_call 161;refine(ends_any _ _ _).mono ?_;rintro x w' ⟨rfl,rfl⟩));go_ret;exact⟨ret_bool ((out_lo g1).trans hf.out),((Gr.refl w).alloc _).alloc _⟩
      ·have g2:decide (b1<loE op L)=false:=by simpa using g1
       by_cases g3:hiE L<b1
       ·have g4:decide (hiE L<b1)=true:=by simpa using g3
        go_wp2_with(first|(go_at_call 160;refine(register_any _ _ _).mono ?_;rintro x w' ⟨rfl,rfl⟩)|(go_at_call 161;refine(ends_any _ _ _).mono ?_;rintro x w' ⟨rfl,rfl⟩));go_ret;exact⟨ret_bool ((out_hi g3).trans hf.out),((Gr.refl w).alloc _).alloc _⟩
       ·have g4:decide (hiE L<b1)=false:=by simpa using g3
        rw[in_e g1 g3]at hf;go_wp2_with(first|(go_at_call 160;refine(register_any _ _ _).mono ?_;rintro x w' ⟨rfl,rfl⟩)|(go_at_call 161;refine(ends_any _ _ _).mono ?_;rintro x w' ⟨rfl,rfl⟩));go_roundw
        case rel=>exact⟨pos+1,r',n0+1,a1,0,c1,m1,rfl,by omega,by omega,by omega,rfl,⟨hr'⟩,hf⟩
        case measure=>rw[iterPos_at,iterPos_at];omega
     ·have rn:regNo n0=3:=by simp[regNo,hz,ho]
      have st:=fR_r2 op l r' n0 a1 b1 c1 m1 hl hz ho;rw[st]at hf;clear st;generalize (l.toNat:Int)=L at*;replace hl:=Hid.mk hl;replace hz:=Hid.mk hz;replace ho:=Hid.mk ho;by_cases g1:c1<loE op L
      ·have g2:decide (c1<loE op L)=true:=by simpa using g1
       go_wp2_with(first|(go_at_call 160;refine(register_any _ _ _).mono ?_;rintro x w' ⟨rfl,rfl⟩)|(go_at_call 161;refine(ends_any _ _ _).mono ?_;rintro x w' ⟨rfl,rfl⟩));go_ret;exact⟨ret_bool ((out_lo g1).trans hf.out),((Gr.refl w).alloc _).alloc _⟩
      ·have g2:decide (c1<loE op L)=false:=by simpa using g1
       by_cases g3:hiE L<c1
       ·have g4:decide (hiE L<c1)=true:=by simpa using g3
        go_wp2_with(first|(go_at_call 160;refine(register_any _ _ _).mono ?_;rintro x w' ⟨rfl,rfl⟩)|(go_at_call 161;refine(ends_any _ _ _).mono ?_;rintro x w' ⟨rfl,rfl⟩));go_ret;exact⟨ret_bool ((out_hi g3).trans hf.out),((Gr.refl w).alloc _).alloc _⟩
       ·have g4:decide (hiE L<c1)=false:=by simpa using g3
        rw[in_e g1 g3]at hf;go_wp2_with(first|(go_at_call 160;refine(register_any _ _ _).mono ?_;rintro x w' ⟨rfl,rfl⟩)|(go_at_call 161;refine(ends_any _ _ _).mono ?_;rintro x w' ⟨rfl,rfl⟩));go_roundw
        case rel=>exact⟨pos+1,r',n0+1,a1,b1,0,m1,rfl,by omega,by omega,by omega,rfl,⟨hr'⟩,hf⟩
        case measure=>rw[iterPos_at,iterPos_at];omega
   ·have q1:((l.toNat:Int)==114)=false:=by simpa using hl
    by_cases hc:(l.toNat:Int)=99∧op≠28
    ·have q2:((l.toNat:Int)==99)=true:=by simpa using hc.1
     have q3:(op != 28)=true:=by simpa using hc.2
     have st:=fR_c op l r' n0 a1 b1 c1 m1 hc.1 hc.2;rw[st]at hf;clear st;generalize (l.toNat:Int)=L at*;replace hl:=Hid.mk hl;replace hc:=Hid.mk hc;by_cases g1:c1<loE op L
     ·have g2:decide (c1<loE op L)=true:=by simpa using g1
      go_wp2_with(first|(go_at_call 160;refine(register_any _ _ _).mono ?_;rintro x w' ⟨rfl,rfl⟩)|(go_at_call 161;refine(ends_any _ _ _).mono ?_;rintro x w' ⟨rfl,rfl⟩));go_ret;exact⟨ret_bool ((out_lo g1).trans hf.out),((Gr.refl w).alloc _).alloc _⟩
     ·have g2:decide (c1<loE op L)=false:=by simpa using g1
      by_cases g3:hiE L<c1
      ·have g4:decide (hiE L<c1)=true:=by simpa using g3
       go_wp2_with(first|(go_at_call 160;refine(register_any _ _ _).mono ?_;rintro x w' ⟨rfl,rfl⟩)|(go_at_call 161;refine(ends_any _ _ _).mono ?_;rintro x w' ⟨rfl,rfl⟩));go_ret;exact⟨ret_bool ((out_hi g3).trans hf.out),((Gr.refl w).alloc _).alloc _⟩
      ·have g4:decide (hiE L<c1)=false:=by simpa using g3
       rw[in_e g1 g3]at hf;go_wp2_with(first|(go_at_call 160;refine(register_any _ _ _).mono ?_;rintro x w' ⟨rfl,rfl⟩)|(go_at_call 161;refine(ends_any _ _ _).mono ?_;rintro x w' ⟨rfl,rfl⟩));go_roundw
       case rel=>exact⟨pos+1,r',n0,a1,b1,0,m1,rfl,by omega,by omega,by omega,rfl,⟨hr'⟩,hf⟩
       case measure=>rw[iterPos_at,iterPos_at];omega
    ·by_cases hd:(l.toNat:Int)=99
     ·have q2:((l.toNat:Int)==99)=true:=by simpa using hd
      have q3:(op != 28)=false:=by simp;omega
      have st:=fR_m op l r' n0 a1 b1 c1 m1 hl hc;rw[st]at hf;clear st;generalize (l.toNat:Int)=L at*;replace hl:=Hid.mk hl;replace hc:=Hid.mk hc;replace hd:=Hid.mk hd;by_cases g1:m1<loE op L
      ·have g2:decide (m1<loE op L)=true:=by simpa using g1
       go_wp2_with(first|(go_at_call 160;refine(register_any _ _ _).mono ?_;rintro x w' ⟨rfl,rfl⟩)|(go_at_call 161;refine(ends_any _ _ _).mono ?_;rintro x w' ⟨rfl,rfl⟩));go_ret;exact⟨ret_bool ((out_lo g1).trans hf.out),((Gr.refl w).alloc _).alloc _⟩
      ·have g2:decide (m1<loE op L)=false:=by simpa using g1
       by_cases g3:hiE L<m1
       ·have g4:decide (hiE L<m1)=true:=by simpa using g3
        go_wp2_with(first|(go_at_call 160;refine(register_any _ _ _).mono ?_;rintro x w' ⟨rfl,rfl⟩)|(go_at_call 161;refine(ends_any _ _ _).mono ?_;rintro x w' ⟨rfl,rfl⟩));go_ret;exact⟨ret_bool ((out_hi g3).trans hf.out),((Gr.refl w).alloc _).alloc _⟩
       ·have g4:decide (hiE L<m1)=false:=by simpa using g3
        rw[in_e g1 g3]at hf;go_wp2_with(first|(go_at_call 160;refine(register_any _ _ _).mono ?_;rintro x w' ⟨rfl,rfl⟩)|(go_at_call 161;refine(ends_any _ _ _).mono ?_;rintro x w' ⟨rfl,rfl⟩));go_roundw
        case rel=>exact⟨pos+1,r',n0,a1,b1,c1,0,rfl,by omega,by omega,by omega,rfl,⟨hr'⟩,hf⟩
        case measure=>rw[iterPos_at,iterPos_at];omega
     ·have q2:((l.toNat:Int)==99)=false:=by simpa using hd
      have st:=fR_m op l r' n0 a1 b1 c1 m1 hl hc;rw[st]at hf;clear st;generalize (l.toNat:Int)=L at*;replace hl:=Hid.mk hl;replace hc:=Hid.mk hc;replace hd:=Hid.mk hd;by_cases g1:m1<loE op L
      ·have g2:decide (m1<loE op L)=true:=by simpa using g1
       go_wp2_with(first|(go_at_call 160;refine(register_any _ _ _).mono ?_;rintro x w' ⟨rfl,rfl⟩)|(go_at_call 161;refine(ends_any _ _ _).mono ?_;rintro x w' ⟨rfl,rfl⟩));go_ret;exact⟨ret_bool ((out_lo g1).trans hf.out),((Gr.refl w).alloc _).alloc _⟩
      ·have g2:decide (m1<loE op L)=false:=by simpa using g1
       by_cases g3:hiE L<m1
       ·have g4:decide (hiE L<m1)=true:=by simpa using g3
        go_wp2_with(first|(go_at_call 160;refine(register_any _ _ _).mono ?_;rintro x w' ⟨rfl,rfl⟩)|(go_at_call 161;refine(ends_any _ _ _).mono ?_;rintro x w' ⟨rfl,rfl⟩));go_ret;exact⟨ret_bool ((out_hi g3).trans hf.out),((Gr.refl w).alloc _).alloc _⟩
       ·have g4:decide (hiE L<m1)=false:=by simpa using g3
        rw[in_e g1 g3]at hf;go_wp2_with(first|(go_at_call 160;refine(register_any _ _ _).mono ?_;rintro x w' ⟨rfl,rfl⟩)|(go_at_call 161;refine(ends_any _ _ _).mono ?_;rintro x w' ⟨rfl,rfl⟩));go_roundw
        case rel=>exact⟨pos+1,r',n0,a1,b1,c1,0,rfl,by omega,by omega,by omega,rfl,⟨hr'⟩,hf⟩
        case measure=>rw[iterPos_at,iterPos_at];omega
  ·have hnx:=fun ty=>next_str_end w (.cells #[.int .u8 op,.int .i64 a1,.int .i64 b1,.int .i64 c1,.int .i64 m1] 29) s pos ty hlt
   have hd:r=[]:=by rw[←hr.out,List.drop_eq_nil_iff];omega
   subst hd;clear hr;go_wp2_with fail
   all_goals go_ret
   all_goals refine ⟨?_,((Gr.refl w).alloc _).alloc _⟩
   all_goals rw [←hf.out]
   all_goals simp [fR, *]
structure Ins where
 op:Int
 a:Int
 b:Int
 c:Int
 m:Int
def Ins.vals (k:Ins):List Value:=[.int .u8 k.op,.int .i64 k.a,.int .i64 k.b,.int .i64 k.c,.int .i64 k.m]
def Ins.agg (k:Ins):Value:=.agg #[.int .u8 k.op,.int .i64 k.a,.int .i64 k.b,.int .i64 k.c,.int .i64 k.m]
def flat (L:List Ins):List Value:=L.flatMap Ins.vals
theorem flat_snoc (L:List Ins)(k:Ins):flat (L++[k])=flat L++k.vals:=by simp[flat]
theorem flat_get (L:List Ins)(i j:Nat)(hi:i<L.length)(hj:j<5):(flat L)[i*5+j]?=(L[i]).vals[j]?:=by
 induction L generalizing i with
 |nil=>simp at hi
 |cons a l ih=>
  have e:flat (a::l)=a.vals++flat l:=by simp[flat]
  rw[e]
  cases i with
  |zero=>rw[List.getElem?_append_left (by simp[Ins.vals];omega)];simp
  |succ i=>
   rw[List.getElem?_append_right (by simp[Ins.vals];omega)];have:(i+1)*5+j - a.vals.length=i*5+j:=by simp[Ins.vals];omega
   rw[this,ih i (by simpa using hi)];simp
def Five (w:World)(b off:Nat)(k:Ins):Prop:=
 w.cell? ⟨b,off,none⟩=some (.int .u8 k.op)∧w.cell? ⟨b,off+1,none⟩=some (.int .i64 k.a)∧w.cell? ⟨b,off+1+1,none⟩=some (.int .i64 k.b)∧w.cell? ⟨b,off+1+1+1,none⟩=some (.int .i64 k.c)∧w.cell? ⟨b,off+1+1+1+1,none⟩=some (.int .i64 k.m)
theorem Five.below {w w1:World}{B b off:Nat}{k:Ins}(h:Five w b off k)(hb:Below B w w1)(hlt:b<B):Five w1 b off k:=
 ⟨(hb.cell (p:=⟨b,_,none⟩) hlt).trans h.1,(hb.cell (p:=⟨b,_,none⟩) hlt).trans h.2.1,(hb.cell (p:=⟨b,_,none⟩) hlt).trans h.2.2.1,(hb.cell (p:=⟨b,_,none⟩) hlt).trans h.2.2.2.1,(hb.cell (p:=⟨b,_,none⟩) hlt).trans h.2.2.2.2⟩
def LIn (B:Nat)(w:World)(a:Option Addr)(L:List Ins):Prop:=∀i (h:i<L.length),∃b off:Nat,a=some ⟨b,off,none⟩∧b<B∧b<w.heap.size∧Five w b (off+i*5) L[i]
theorem LIn.below {B:Nat}{w w1:World}{a:Option Addr}{L:List Ins}(h:LIn B w a L)(hb:Below B w w1):LIn B w1 a L:=fun i hi=>by
 obtain⟨b,off,ha,h1,h2,h3⟩:=h i hi;exact⟨b,off,ha,h1,Nat.lt_of_lt_of_le h2 hb.size,h3.below hb h1⟩
theorem LIn.mono {B B':Nat}{w:World}{a:Option Addr}{L:List Ins}(h:LIn B w a L)(hb:B≤B'):LIn B' w a L:=fun i hi=>by
 obtain⟨b,off,ha,h1,h2,h3⟩:=h i hi;exact⟨b,off,ha,Nat.lt_of_lt_of_le h1 hb,h2,h3⟩
theorem Below.of_grown {B:Nat}{w w1:World}{row:Option Nat}(h:w.grownBy w1 row)(hB:B≤w.heap.size)(hr:∀g,row=some g→B≤g):Below B w w1:=
 ⟨h.os,h.tape,h.output,h.size,fun k hk=>h.block k (Nat.lt_of_lt_of_le hk hB) (fun e=>by have:=hr k e.symm;omega)⟩
theorem own_below {w w1:World}{base e size n:Nat}{v:Value}{xs:List Value}(h:w.ownsRow base e size v n xs)(hb:Below w.heap.size w w1):w1.ownsRow base e size v n xs:=by
 refine⟨h.1,?_⟩;rcases h.2 with h2|⟨g,cap,cur,hv,hbg,hg,rest⟩
 ·exact .inl h2
 ·have hlt:g<w.heap.size:=(Array.getElem?_eq_some_iff.1 hg).1;exact .inr ⟨g,cap,cur,hv,hbg,(hb.block g hlt).trans hg,rest⟩
theorem own_grown {w w1:World}{base e size n:Nat}{v:Value}{xs:List Value}{row:Option Nat}(h:w.ownsRow base e size v n xs)(hg:w.grownBy w1 row)(hne:∀g,v.ownBlock=some g→row≠some g):w1.ownsRow base e size v n xs:=by
 refine⟨h.1,?_⟩;rcases h.2 with h2|⟨g,cap,cur,hv,hbg,hh,rest⟩
 ·exact .inl h2
 ·have hlt:g<w.heap.size:=(Array.getElem?_eq_some_iff.1 hh).1;refine .inr ⟨g,cap,cur,hv,hbg,(hg.block g hlt ?_).trans hh,rest⟩;intro e;exact hne g (by rw[hv];rfl) e.symm
theorem own_block {w:World}{base e size n:Nat}{v:Value}{xs:List Value}(h:w.ownsRow base e size v n xs):∀g,v.ownBlock=some g→base≤g∧g<w.heap.size:=by
 intro g hg;rcases h.2 with⟨rfl,_⟩|⟨g',cap,cur,rfl,hbg,hh,rest⟩
 ·cases hg
 ·have:g'=g:=by simpa [Value.ownBlock]using hg
  subst this;exact⟨hbg,(Array.getElem?_eq_some_iff.1 hh).1⟩
def LOwn (w:World)(base:Nat)(v:Value)(L:List Ins):Prop:=w.ownsRow base 29 5 v L.length (flat L)
theorem LOwn.nil (w:World)(base:Nat):LOwn w base (.slice none 0 0) []:=⟨rfl,.inl ⟨rfl,rfl⟩⟩
theorem LOwn.form {w:World}{base:Nat}{v:Value}{L:List Ins}(h:LOwn w base v L):∃a cap,v=.slice a L.length cap∧LIn w.heap.size w a L:=by
 rcases h.2 with⟨rfl,h0⟩|⟨g,cap,cur,rfl,hbg,hh,rest⟩
 ·refine⟨none,0,by rw[h0],fun i hi=>?_⟩;omega
 ·refine⟨_,cap,rfl,fun i hi=>⟨g,0,rfl,(Array.getElem?_eq_some_iff.1 hh).1,(Array.getElem?_eq_some_iff.1 hh).1,?_⟩⟩;have hc:∀j,j<5→w.cell? ⟨g,i*5+j,none⟩=(L[i]).vals[j]?:=fun j hj=>by
   have hc:=World.ownsRow.cells h (g:=g) rfl (i*5+j) ((L[i]).vals[j]'(by simpa [Ins.vals]using hj)) (by rw[flat_get L i j hi hj];simp);have ea:(⟨g,0,none⟩:Addr).add (i*5+j)=⟨g,i*5+j,none⟩:=by generalize i*5+j=m;by_cases h0:m=0<;>simp[Addr.add,h0]
   rw[ea]at hc;rw[hc];simp
  rw[Nat.zero_add];exact⟨hc 0 (by omega),hc 1 (by omega),hc 2 (by omega),hc 3 (by omega),hc 4 (by omega)⟩
theorem info_parts {t:TypeId}{z:Value}{s b:Nat}(h:(Tryz.prog.info? t).map (fun i=>(i.zero,i.size,i.bytes))=some (some z,s,b)):
 ∃i,Tryz.prog.info? t=some i∧i.zero=some z∧i.size=s∧i.bytes=b:=by
 obtain⟨i,hi,he⟩:=Option.map_eq_some_iff.1 h;simp only[Prod.mk.injEq]at he;exact⟨i,hi,he.1,he.2.1,he.2.2⟩
theorem news_at {w:World}{X:Nat}{cs:List Value}(h:At w X cs.toArray):∀j u,cs[j]?=some u→w.cell? ((⟨X,0,none⟩:Addr).add j)=some u:=by
 intro j u hj;have ea:(⟨X,0,none⟩:Addr).add j=⟨X,j,none⟩:=by by_cases h0:j=0<;>simp[Addr.add,h0]
 rw[ea,h.2.1];simpa using hj
end Go.Proofs.YtkhbiaaangnkdaaGreatDoor
