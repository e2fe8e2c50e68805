import Derived.Test.YtkhbiaaangnkdaaGreatDoorChecked
import Derived.Test.YtkhbiaaangnkdaaGreatDoorJ01
import Derived.WalkKit
import Derived.WalkSpells
import Derived.WalkLawsBesides
import Derived.Laws.Shifts
import Derived.Laws.BitsAllLaws
import Derived.Lib.OthersKept
import Derived.Deep.DeepCutAuto
import Derived.Deep.Light
import Derived.Deep.QuietTactic
import Derived.BigQuiet
import Derived.Deep.RegionWith
import Derived.BigRegion
namespace Go.Proofs.YtkhbiaaangnkdaaGreatDoor
namespace T
open Go.RowKit
structure Hid (p:Prop):Prop where
 out:p
structure Kp (S:Nat→Prop)(w w':World):Prop where
 os:w'.os=w.os
 tape:w'.tape=w.tape
 output:w'.output=w.output
 size:w.heap.size≤w'.heap.size
 block:∀k,k<w.heap.size→¬S k→w'.heap[k]?=w.heap[k]?
theorem Kp.refl (S:Nat→Prop)(w:World):Kp S w w:=⟨rfl,rfl,rfl,Nat.le_refl _,fun _ _ _=>rfl⟩
theorem Kp.trans {S S1:Nat→Prop}{w w1 w2:World}(h:Kp S w w1)(h1:Kp S1 w1 w2)(hs:∀k,S1 k→S k∨w.heap.size≤k):Kp S w w2:=
 ⟨h1.os.trans h.os,h1.tape.trans h.tape,h1.output.trans h.output,Nat.le_trans h.size h1.size,fun k hk hn=>(h1.block k (Nat.lt_of_lt_of_le hk h.size) (fun q=>by
  rcases hs k q with r|r
  ·exact hn r
  ·omega)).trans (h.block k hk hn)⟩
theorem Kp.of_below {S:Nat→Prop}{w w1:World}(h:Below w.heap.size w w1):Kp S w w1:=⟨h.os,h.tape,h.output,h.size,fun k hk _=>h.block k hk⟩
theorem Kp.below {S:Nat→Prop}{w w1:World}{B:Nat}(h:Kp S w w1)(hB:B≤w.heap.size)(hs:∀k,S k→B≤k):Below B w w1:=
 ⟨h.os,h.tape,h.output,h.size,fun k hk=>h.block k (by omega) (fun q=>by have:=hs k q;omega)⟩
theorem Kp.mono {S S1:Nat→Prop}{w w1:World}(h:Kp S w w1)(hs:∀k,S k→S1 k∨w.heap.size≤k):Kp S1 w w1:=
 ⟨h.os,h.tape,h.output,h.size,fun k hk hn=>h.block k hk (fun q=>by
  rcases hs k q with r|r
  ·exact hn r
  ·omega)⟩
theorem Kp.drew (S:Nat→Prop)(w:World):Kp S w w.drew:=Kp.of_below (Below.drew (Below.refl _ w))
theorem Kp.alloc (S:Nat→Prop)(w:World)(o:Obj):Kp S w (w.alloc o):=Kp.of_below ((Below.refl _ w).alloc (Nat.le_refl _) o)
theorem heap_set (w:World)(a:Addr)(v:Value)(k:Nat)(h:a.block≠k):(w.setCell a v).heap[k]?=w.heap[k]?:=by
 unfold World.setCell;simp[Array.getElem?_modify,h]
theorem Kp.set {S:Nat→Prop}(w:World)(a:Addr)(v:Value)(h:S a.block):Kp S w (w.setCell a v):=
 ⟨rfl,rfl,rfl,by simp,fun k _ hn=>heap_set w a v k (fun e=>hn (e▸h))⟩
theorem cell_of_block {w w':World}{k:Nat}(h:w'.heap[k]?=w.heap[k]?)(o:Nat):w'.cell? ⟨k,o,none⟩=w.cell? ⟨k,o,none⟩:=by
 simp only[World.cell?,h]
theorem frozen_of_block {w w':World}{k:Nat}(h:w'.heap[k]?=w.heap[k]?)(o:Nat):w'.frozen? ⟨k,o,none⟩=w.frozen? ⟨k,o,none⟩:=by
 simp only[World.frozen?,h]
theorem cso {w:World}{k o k' o':Nat}{v:Value}(h:k=k'→o≠o'):(w.setCell ⟨k,o,none⟩ v).cell? ⟨k',o',none⟩=w.cell? ⟨k',o',none⟩:=
 World.cell?_setCell_other (w:=w) (a:=⟨k,o,none⟩) (v:=v) (b:=⟨k',o',none⟩) (by simp;exact h)
def upd (b:Nat→UInt8)(a:Nat)(v:UInt8):Nat→UInt8:=fun x=>if x=a then v else b x
def ptr (o:Option Nat):Value:=.pointer (o.map fun k=>⟨k,0,none⟩)
def bv (x:UInt8):Value:=.int .u8 x.toNat
structure Pg (S:Nat→Prop)(w:World)(a:Nat)(pg:Nat→Option Nat)(b:Nat→UInt8):Prop where
 lt:a<w.heap.size
 no:¬S a
 own:∀k,S k→k<w.heap.size
 box:∀i,i<64→w.cell? ⟨a,i,none⟩=some (ptr (pg i))∧w.frozen? ⟨a,i,none⟩=false
 page:∀i k,i<64→pg i=some k→S k∧k<w.heap.size∧∀j,j<1024→w.cell? ⟨k,j,none⟩=some (bv (b (i*1024+j)))∧w.frozen? ⟨k,j,none⟩=false
 zero:∀i,i<64→pg i=none→∀j,j<1024→b (i*1024+j)=0
 inj:∀i j k,i<64→j<64→pg i=some k→pg j=some k→i=j
def PgIn (S:Nat→Prop)(w:World)(a:Nat)(b:Nat→UInt8):Prop:=∃pg,Pg S w a pg b
theorem Pg.keep {S:Nat→Prop}{w w':World}{a:Nat}{pg:Nat→Option Nat}{b:Nat→UInt8}(h:Pg S w a pg b)(hs:w.heap.size≤w'.heap.size)
 (hb:∀i,i<64→w'.cell? ⟨a,i,none⟩=w.cell? ⟨a,i,none⟩∧w'.frozen? ⟨a,i,none⟩=w.frozen? ⟨a,i,none⟩)(hk:∀k,S k→k<w.heap.size→w'.heap[k]?=w.heap[k]?):Pg S w' a pg b:=
 ⟨Nat.lt_of_lt_of_le h.lt hs,h.no,fun k q=>Nat.lt_of_lt_of_le (h.own k q) hs,fun i hi=>⟨(hb i hi).1.trans (h.box i hi).1,(hb i hi).2.trans (h.box i hi).2⟩,
  fun i k hi he=>by
   obtain⟨h1,h2,h3⟩:=h.page i k hi he;exact⟨h1,Nat.lt_of_lt_of_le h2 hs,fun j hj=>⟨(cell_of_block (hk k h1 h2) j).trans (h3 j hj).1,(frozen_of_block (hk k h1 h2) j).trans (h3 j hj).2⟩⟩,h.zero,h.inj⟩
theorem PgIn.keep {S:Nat→Prop}{w w':World}{a:Nat}{b:Nat→UInt8}(h:PgIn S w a b)(hs:w.heap.size≤w'.heap.size)
 (hb:∀i,i<64→w'.cell? ⟨a,i,none⟩=w.cell? ⟨a,i,none⟩∧w'.frozen? ⟨a,i,none⟩=w.frozen? ⟨a,i,none⟩)(hk:∀k,S k→k<w.heap.size→w'.heap[k]?=w.heap[k]?):PgIn S w' a b:=by
 obtain⟨pg,h⟩:=h;exact⟨pg,h.keep hs hb hk⟩
structure Fr (S S':Nat→Prop)(w w':World)(a:Nat):Prop where
 up:∀k,S k→S' k
 new:∀k,S' k→S k∨w.heap.size≤k
 kp:Kp (fun k=>k=a∨S k) w w'
 rest:∀o,64≤o→w'.cell? ⟨a,o,none⟩=w.cell? ⟨a,o,none⟩∧w'.frozen? ⟨a,o,none⟩=w.frozen? ⟨a,o,none⟩
theorem Fr.refl (S:Nat→Prop)(w:World)(a:Nat):Fr S S w w a:=⟨fun _ h=>h,fun _ h=>.inl h,Kp.refl _ w,fun _ _=>⟨rfl,rfl⟩⟩
theorem Fr.trans {S S1 S2:Nat→Prop}{w w1 w2:World}{a:Nat}(h:Fr S S1 w w1 a)(g:Fr S1 S2 w1 w2 a):Fr S S2 w w2 a:=
 ⟨fun k q=>g.up k (h.up k q),fun k q=>by
  rcases g.new k q with r|r
  ·exact h.new k r
  ·exact .inr (Nat.le_trans h.kp.size r),
  h.kp.trans g.kp (fun k q=>by
   rcases q with q|q
   ·exact .inl (.inl q)
   ·rcases h.new k q with r|r
    ·exact .inl (.inr r)
    ·exact .inr r),
  fun o ho=>⟨(g.rest o ho).1.trans (h.rest o ho).1,(g.rest o ho).2.trans (h.rest o ho).2⟩⟩
theorem page_zero (w:World):(zeroValue 250).run Tryz.prog w=.ok (.agg (Array.replicate 1024 (.int .u8 0))) w:=by kernel_rfl
end T
end Go.Proofs.YtkhbiaaangnkdaaGreatDoor
