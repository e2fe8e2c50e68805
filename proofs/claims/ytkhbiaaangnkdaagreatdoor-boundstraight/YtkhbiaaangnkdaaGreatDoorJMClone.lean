import Derived.Test.YtkhbiaaangnkdaaGreatDoorJ02
import Derived.Test.YtkhbiaaangnkdaaGreatDoorChecked
import Derived.Shelf.Strconv.Clone
namespace Go.Proofs.YtkhbiaaangnkdaaGreatDoor
set_option maxRecDepth 100000
set_option maxHeartbeats 40000000
open Go.RowKit Go.Shelf
def renC:Ren:=⟨fun _=>131,fun n=>if n=0 then 0 else if n=3 then 3 else if n=4 then 4 else if n=5 then 5 else if n=9 then 9 else if n=37 then 246 else 247,fun n=>n⟩
theorem lays316:LaysM.n316 Tryz.prog renC:=
 ⟨⟨by kernel_rfl,by kernel_rfl,
  by kernel_rfl,fun w=>Tryz.isAgg0 w,fun w=>Tryz.sizeOf0 w,fun w=>Tryz.zeroValue0 w,
  by kernel_rfl,fun w=>Tryz.isAgg3 w,fun w=>Tryz.sizeOf3 w,fun w=>Tryz.zeroValue3 w,
  by kernel_rfl,fun w=>Tryz.isAgg4 w,fun w=>Tryz.sizeOf4 w,fun w=>Tryz.zeroValue4 w,
  by kernel_rfl,fun w=>Tryz.isAgg9 w,fun w=>Tryz.sizeOf9 w,fun w=>Tryz.zeroValue9 w,
  by kernel_rfl,fun w=>Tryz.isAgg246 w,fun w=>Tryz.sizeOf246 w,fun w=>Tryz.zeroValue246 w,
  by kernel_rfl,fun w=>Tryz.isAgg247 w,fun w=>Tryz.sizeOf247 w,fun w=>Tryz.zeroValue247 w⟩,
  by kernel_rfl,fun w=>Tryz.isAgg5 w,fun w=>Tryz.sizeOf5 w,fun w=>Tryz.zeroValue5 w,
  by kernel_rfl,by kernel_rfl,by kernel_rfl,by kernel_rfl,by kernel_rfl,by kernel_rfl,by kernel_rfl⟩
theorem liteClone_any (s:List UInt8)(w:World)(h:s.length≤140737488355328):
 Calls Tryz.prog 131 #[.string (str s)] w fun x w'=>x=.returned (.string (str s))∧Below w.heap.size w w':=
 Any.stringslite_Clone lays316 (str s) w (by rw[str_size];omega)
theorem Clone_any (s:List UInt8)(w:World)(h:s.length≤140737488355328):
 Calls Tryz.prog 87 #[.string (str s)] w fun x w'=>x=.returned (.string (str s))∧Below w.heap.size w w':=by
 have hl:=fun W=>liteClone_any s W h
 go_enter Tryz.func87,Tryz.ntmps87;go_wp2_with fail;refine(hl _).mono ?_;rintro x w' ⟨rfl,hb⟩;replace hb:=Hid.mk hb;go_wp2_with fail;go_ret;exact⟨rfl,hb.out⟩
end Go.Proofs.YtkhbiaaangnkdaaGreatDoor
