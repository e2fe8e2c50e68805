import Derived.Test.YthlpjlnehonpdaaGreatDoorK44
import Derived.Test.YthlpjlnehonpdaaGreatDoorK41
namespace Go.Proofs.YthlpjlnehonpdaaGreatDoor
namespace F
open Go.RowKit
open T
end F
namespace Bd
open Go.RowKit
open T (Kp)
open F (folB wyF wayN cnt)
theorem dp_nn (l:List Int):0≤dpL l:=by
 unfold dpL;have:∀(l:List Int) (a:Int),0≤a→0≤l.foldl (fun a d=>max a (wrap64 (d+1))) a:=by
  intro l
  induction l with
  |nil=>exact fun a h=>h
  |cons x l ih=>exact fun a h=>ih _ (Int.le_trans h (Int.le_max_left _ _))
 exact this l 0 (Int.le_refl _)
structure Mx (P:Nat→Prop)(l:Nat→Int)(d:Int):Prop where
 nn:0≤d
 up:∀h,P h→l h+1≤d
 at_:d=0∨∃h,P h∧d=l h+1
theorem Mx.none {P:Nat→Prop}{l:Nat→Int}(h:∀x,¬P x):Mx P l 0:=⟨Int.le_refl _,fun x hx=>absurd hx (h x),.inl rfl⟩
theorem Mx.snoc {P Q:Nat→Prop}{l:Nat→Int}{d:Int}{x:Nat}(h:Mx P l d)(e:∀y,Q y↔P y∨y=x):Mx Q l (max d (l x+1)):=by
 refine⟨by have:=h.nn;omega,fun y hy=>?_,?_⟩
 ·rcases(e y).1 hy with q|q
  ·have:=h.up y q;omega
  ·subst q;omega
 ·by_cases q:d≤l x+1
  ·exact .inr ⟨x,(e x).2 (.inr rfl),by omega⟩
  ·rcases h.at_ with h0|⟨y,hy,e1⟩
   ·exact .inl (by omega)
   ·exact .inr ⟨y,(e y).2 (.inl hy),by omega⟩
theorem snoc_ind {α:Type}{P:List α→Prop}(h0:P [])(h1:∀l a,P l→P (l++[a]))(l:List α):P l:=by
 rw[←List.reverse_reverse l]
 induction l.reverse with
 |nil=>exact h0
 |cons a t ih=>rw[List.reverse_cons];exact h1 _ _ ih
theorem mx_dp {l:Nat→Int}:∀(N:List Nat),(∀c∈N,0≤l c∧l c≤1000)→Mx (fun c=>c∈N) l (dpL (N.map l)):=by
 refine snoc_ind (P:=fun N=>(∀c∈N,0≤l c∧l c≤1000)→Mx (fun c=>c∈N) l (dpL (N.map l))) ?_ ?_
 ·exact fun _=>Mx.none (fun x h=>by cases h)
 ·intro N x ih h;rw[List.map_append,List.map_cons,List.map_nil,dpL_snoc];have hx:=h x (by simp);have e1:wrap64 (l x+1)=l x+1:=by unfold wrap64;omega
  rw[e1];exact(ih (fun c hc=>h c (by simp[hc]))).snoc (fun y=>by simp)
theorem evd_le {m:PImg}:∀k,k≤1000→∀n v,evF (nxG m) dpF k n=some v→0≤v∧v≤(k:Int) - 1
 |0,_,_,_,h=>by cases h
 |k+1,hk,n,v,h=>by
  obtain⟨vs,h1,h2⟩:=evF_get h;unfold dpF at h2;injection h2 with h2;subst h2;have hv:∀x∈vs,0≤x∧x≤(k:Int) - 1:=fun x hx=>by
   obtain⟨c,_,hcx⟩:=(map_some h1).2 x hx;exact evd_le k (by omega) c x hcx
  have:∀(l:List Int) (a:Int),(∀x∈l,0≤x∧x≤(k:Int) - 1)→0≤a→a≤k→l.foldl (fun a d=>max a (wrap64 (d+1))) a≤k:=by
   intro l
   induction l with
   |nil=>exact fun a _ _ h=>h
   |cons x l ih=>
    intro a hl h0 h1;have hx:=hl x (by simp);have e1:wrap64 (x+1)=x+1:=by unfold wrap64;omega
    rw[List.foldl_cons,e1];exact ih _ (fun y hy=>hl y (by simp[hy])) (by omega) (by omega)
  have h3:=this vs 0 hv (Int.le_refl _) (by omega);have h4:=dp_nn vs;unfold dpL at*;omega
section
variable {m:PImg} {l0 l:Nat→Int} {a:Bool} {g:Nat}
end
noncomputable def dpV (m:PImg) (g:Nat):Int:=match ev (nxG m) dpF (List.range m.gates.length) g with|some v=>v|none=> -1
section
variable {m:PImg} {l0 l:Nat→Int} {a:Bool}
end
end Bd
end Go.Proofs.YthlpjlnehonpdaaGreatDoor
