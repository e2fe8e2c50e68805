import Derived.Test.YtdlcphinjnnhcaaGreatDoorK22
import Derived.Test.YtdlcphinjnnhcaaGreatDoorK26
import Derived.Test.YtdlcphinjnnhcaaGreatDoorK25
import Derived.Deep.RegionHeld3
import Derived.StillTactics
import Derived.Deep.DeepCutAuto
import Derived.DeepKeys
namespace Go.Proofs.YtdlcphinjnnhcaaGreatDoor
namespace Bd
open Go.RowKit

theorem twin_img {kk kr kc kg : Nat} {W : World} {m : PImg} {lr : List Q.RgV} {lc : List Q.CpV} {lg : List Q.GtV} (h : Q.TwIn kk kr kc kg W m lr lc lg) : ImgIn W.heap.size W (some ⟨kr, 0, none⟩) (some ⟨kc, 0, none⟩) (some ⟨kg, 0, none⟩) m := by
 refine ⟨fun i hi => ?_, fun i hi => ?_, fun i hi => ?_⟩
 · obtain ⟨v, hv, e1, e2, e3, hok⟩ := (h.rd i (by omega)).1 hi
   have q := Q.elem_atL Q.rg_len h.r i _ hv
   rcases hok with ⟨h0, hs⟩ | ⟨_, hok⟩
   · refine ⟨kr, 0, none, 0, rfl, h.r.1, h.r.1, ?_, ?_, ?_, ?_, by rw [h0]; exact FIn.nil _ _ _ _ _⟩
     · rw [Nat.zero_add, ← e1]; exact q 0 _ rfl
     · rw [Nat.zero_add, ← e2]; exact q 1 _ rfl
     · rw [Nat.zero_add, ← e3]; exact q 2 _ rfl
     · rw [Nat.zero_add, h0]
       have := q 3 _ rfl
       rw [hs] at this
       exact this
   · refine ⟨kr, 0, v.s.a, v.s.c, rfl, h.r.1, h.r.1, ?_, ?_, ?_, ?_, hok.finL Q.slt_len⟩
     · rw [Nat.zero_add, ← e1]; exact q 0 _ rfl
     · rw [Nat.zero_add, ← e2]; exact q 1 _ rfl
     · rw [Nat.zero_add, ← e3]; exact q 2 _ rfl
     · rw [Nat.zero_add, ← hok.lenL]; exact q 3 _ rfl
 · obtain ⟨v, hv, hok⟩ := (h.cd i (by omega)).1 hi
   have q := Q.elem_atL Q.cp_len h.c i _ hv
   refine ⟨kc, 0, v.r.a, v.r.c, v.k.a, v.k.c, rfl, h.c.1, h.c.1, ?_, ?_, hok.1.finL Q.rot_len, hok.2.linL⟩
   · rw [Nat.zero_add, ← hok.1.lenL]; exact q 0 _ rfl
   · rw [Nat.zero_add, ← hok.2.lenL]; exact q 1 _ rfl
 · obtain ⟨v, hv, e1, e2, h1, h2⟩ := (h.gd i (by omega)).1 hi
   have q := Q.elem_atL Q.gt_len h.g i _ hv
   refine ⟨kg, 0, v.x.a, v.x.c, v.y.a, v.y.c, rfl, h.g.1, h.g.1, ?_, ?_, ?_, ?_, h1.finL Q.typ_len, h2.finL Q.typ_len⟩
   · rw [Nat.zero_add, ← e1]; exact q 0 _ rfl
   · rw [Nat.zero_add, ← e2]; exact q 1 _ rfl
   · rw [Nat.zero_add, ← h1.lenL]; exact q 2 _ rfl
   · rw [Nat.zero_add, ← h2.lenL]; exact q 3 _ rfl
end Bd
end Go.Proofs.YtdlcphinjnnhcaaGreatDoor


namespace Go.Proofs.YtdlcphinjnnhcaaGreatDoor
set_option maxRecDepth 100000
set_option maxHeartbeats 40000000
namespace Q
open Go.RowKit

theorem neTyp (x : PTyp) (W : World) : (binOp .neq 84 (.agg (PTyp.vals x).toArray) (.agg (PTyp.vals x).toArray)).run Tryz.prog W = .ok (.bool false) W := by
 obtain ⟨a, b, c, d, e, f, g⟩ := x
 simp only [PTyp.vals]
 simp [go_sem]
theorem neRot (x : PRoot) (W : World) : (binOp .neq 51 (.agg (PRoot.vals x).toArray) (.agg (PRoot.vals x).toArray)).run Tryz.prog W = .ok (.bool false) W := by
 obtain ⟨a, b, c, d, e, f⟩ := x
 simp only [PRoot.vals]
 simp [go_sem]
theorem neIns (x : Ins) (W : World) : (binOp .neq 41 (.agg (Ins.vals x).toArray) (.agg (Ins.vals x).toArray)).run Tryz.prog W = .ok (.bool false) W := by
 obtain ⟨a, b, c, d, e⟩ := x
 simp only [Ins.vals]
 simp [go_sem]
theorem neSlt (x : PSlot) (W : World) : (binOp .neq 87 (.agg (PSlot.vals x).toArray) (.agg (PSlot.vals x).toArray)).run Tryz.prog W = .ok (.bool false) W := by
 obtain ⟨⟨a, b, c, d, e, f, g⟩, h⟩ := x
 simp only [PSlot.vals, PTyp.vals, List.cons_append, List.nil_append]
 simp [go_sem]
theorem fin_at {α : Type} {n : Nat} {vals : α → List Value} (hv : ∀ x, (vals x).length = n) {B : Nat} {w : World} {a : Option Addr} {L : List α} (h : FIn n vals B w a L) (i : Nat) (hi : i < L.length) : ∃ b off, a = some ⟨b, off, none⟩ ∧ b < B ∧ w.rangeAt b (off + i * n) (vals L[i]) := by
 obtain ⟨b, off, e, h1, _, h3⟩ := h i hi
 refine ⟨b, off, e, h1, fun j v q => ?_⟩
 have hj : j < n := by rw [← hv L[i]]; exact (List.getElem?_eq_some_iff.1 q).1
 rw [h3 j hj]
 exact q
theorem range_gr {w W : World} {B b o : Nat} {l : List Value} (h : w.rangeAt b o l) (hb : b < B) (q : Below B w W) : W.rangeAt b o l := fun j v e => (q.cell (p := ⟨b, _, none⟩) hb).trans (h j v e)
theorem marked_len {α : Type} (M : α) (L : List α) : (marked M L).length = L.length + 8 := by simp [marked]
theorem marked_lt {α : Type} (M : α) (L : List α) (i : Nat) (h : i < L.length) (h' : i < (marked M L).length) : (marked M L)[i] = L[i] := by simp [marked, List.getElem_append_left h]
theorem marked_ge {α : Type} (M : α) (L : List α) (i : Nat) (h : L.length ≤ i) (h' : i < (marked M L).length) : (marked M L)[i] = M := by
 unfold marked at *
 rw [List.getElem_append_right h, List.getElem_replicate]
theorem gr_below {w W : World} {B : Nat} (g : Gr w W) (hB : B ≤ w.heap.size) : Below B w W := ⟨g.below.os, g.below.tape, g.below.output, g.below.size, fun k hk => g.below.block k (by omega)⟩
theorem stillTypes_any (L : List PTyp) (a : Option Addr) (c B g : Nat) (w : World) (hA : At w g (rowV [] PTyp.vals (marked typeM L)).toArray) (hL : FIn 7 PTyp.vals B w a L) (hB : B ≤ w.heap.size) (hb : L.length ≤ 281474976710648) : Calls Tryz.prog 26 #[.slice (some ⟨g, 0, none⟩) L.length (L.length + 8), .slice a L.length c] w fun x w' => x = .returned (.bool true) ∧ Gr w w' := by
 have hw8 : wrap64 ((L.length : Int) + 8) = (L.length : Int) + 8 := by unfold wrap64; omega
 have hx8 : IntKind.i64.wrap ((L.length : Int) + 8) = (L.length : Int) + 8 := by rw [IntKind.wrap_i64]; omega
 have hle : (L.length : Int) ≤ (L.length : Int) + 8 := by omega
 have hM := Hid.mk (fun W => typeMark_any W)
 have hq := fun e W => neTyp e W
 have hqM : ∀ W, (binOp .neq 84 (.agg (PTyp.vals typeM).toArray) (.agg #[.bool true, .int .u64 77, .int .u64 0, .int .u64 0, .int .u64 0, .int .u8 0, .int .i64 222])).run Tryz.prog W = .ok (.bool false) W := fun W => neTyp typeM W
 replace hA := Hid.mk hA
 replace hL := Hid.mk hL
 replace hB := Hid.mk hB
 go_enter Tryz.func26, Tryz.ntmps26
 go_upto_region 5 with fail
 go_loopw [6] (fun x wr => ∃ i : Nat, x = .int .i64 i ∧ i ≤ L.length + 8 ∧ Hid (Gr w wr)) (fun x _ => L.length + 8 - (intOf x).toNat)
 case atStart => exact ⟨0, rfl, by omega, Hid.mk (Gr.refl w)⟩
 case round =>
   obtain ⟨i, rfl, hi, G⟩ := hrel
   by_cases hlt : i < L.length + 8
   · have hi1 : (i : Int) < (L.length : Int) + 8 := by omega
     by_cases hn : i < L.length
     · have hin : (i : Int) < (L.length : Int) := by omega
       have hge : ¬ (L.length : Int) ≤ (i : Int) := by omega
       obtain ⟨b, off, ha, hb, rg⟩ := fin_at typ_len hL.out i hn
       subst ha
       have rA := Hid.mk (fun (W : World) (q : Gr wr W) => marked_lt typeM L i hn (by rw [marked_len]; omega) ▸ (hA.out.gr (G.out.trans q)).elem (pre := []) typ_len i (by rw [marked_len]; omega) (i * 7) (by simp))
       replace rg := Hid.mk rg
       generalize L[i] = e at *
       have KS : Hid (∀ W, Gr wr W → W.rangeAt g (i * 7) (PTyp.vals e) ∧ W.rangeAt b (off + i * 7) (PTyp.vals e)) := Hid.mk (fun W q => ⟨rA.out W q, range_gr rg.out hb (gr_below (G.out.trans q) hB.out)⟩)
       go_upto_region 7 with fail
       have d1 : Gr wr wr.drew := (Gr.refl _).drew
       refine wp_region_held_drew (S := (fun W => W.rangeAt g (i * 7) (PTyp.vals e) ∧ W.rangeAt b (off + i * 7) (PTyp.vals e))) (by kernel_rfl) (KS.out _ d1) (fun hHeld => ?_)
       refine xso 0 ?_ rfl ?_ (xso 1 ?_ rfl ?_ (xso 2 ?_ rfl ?_ (xso 3 ?_ rfl ?_ (xso 4 ?_ rfl ?_ ?_))))
       iterate 5 (rotate_left; focus ((try simp only [xap]); intro w hSw; (try dsimp only at hSw); go_simp; first | done | with_reducible rfl))
       try simp only [xap]
       refine xso 5 ?_ rfl ?_ ?_
       rotate_left
       · intro w hSw; (try dsimp only at hSw); go_simp; first | done | with_reducible rfl
       try simp only [xap]
       refine xso 6 ?_ rfl ?_ ?_
       rotate_left
       · intro w hSw; (try dsimp only at hSw); go_simp; first | done | with_reducible rfl
       try simp only [xap]
       refine xso 7 ?_ rfl ?_ ?_
       rotate_left
       · intro w hSw; (try dsimp only at hSw); go_simp; first | done | with_reducible rfl
       try simp only [xap]
       refine xtk 8 rfl (yieldsIf_load_mid (by rfl) _ _ rfl _ _ rfl _ _ (fun _ h => h.1) Tryz.underlying84 rfl (by kernel_rfl)) ?_
       try simp only [xap]
       refine xso 9 ?_ rfl ?_ ?_
       rotate_left
       · intro w hSw; (try dsimp only at hSw); go_simp; first | done | with_reducible rfl
       try simp only [xap]
       refine xso 10 ?_ rfl ?_ ?_
       rotate_left
       · intro w hSw; (try dsimp only at hSw); go_simp; first | done | with_reducible rfl
       try simp only [xap]
       refine xso 11 ?_ rfl ?_ ?_
       rotate_left
       · intro w hSw; (try dsimp only at hSw); go_simp; first | done | with_reducible rfl
       try simp only [xap]
       refine xtk 12 rfl (yieldsIf_load_mid (by rfl) _ _ rfl _ _ rfl _ _ (fun _ h => h.2) Tryz.underlying84 rfl (by kernel_rfl)) ?_
       try simp only [xap]
       refine xso 13 ?_ rfl ?_ (xso 14 ?_ rfl ?_ ?_)
       iterate 2 (rotate_left; focus ((try simp only [xap]); intro w hSw; (try dsimp only at hSw); go_simp; first | done | with_reducible rfl))
       try simp only [xap]
       refine xdn ?_ _
       clear hHeld KS rA rg
       replace G := Hid.mk (G.out.trans d1)
       clear d1
       go_upto_region 9 with fail
       generalize wr.drew = wr at *
       have d1 : Gr wr wr.drew := (Gr.refl _).drew
       refine wp_region_held_drew (S := (fun _ => True)) (by kernel_rfl) (True.intro) (fun hHeld => ?_)
       refine xso 0 ?_ rfl ?_ (xso 1 ?_ rfl ?_ (xso 2 ?_ rfl ?_ (xso 3 ?_ rfl ?_ (xso 4 ?_ rfl ?_ ?_))))
       iterate 5 (rotate_left; focus ((try simp only [xap]); intro w hSw; (try dsimp only at hSw); go_simp; first | done | with_reducible rfl))
       try simp only [xap]
       refine xtk 5 (v := undef) rfl (Or.inr ⟨by rfl, rfl⟩) ?_
       try simp only [xap]
       refine xtk 6 (v := undef) rfl (Or.inr ⟨by rfl, rfl⟩) ?_
       try simp only [xap]
       refine xtk 7 (v := undef) rfl (Or.inr ⟨by rfl, rfl⟩) ?_
       try simp only [xap]
       refine xtk 8 (v := undef) rfl (Or.inr ⟨by rfl, rfl⟩) ?_
       try simp only [xap]
       refine xtk 9 (v := undef) rfl (Or.inr ⟨by rfl, rfl⟩) ?_
       try simp only [xap]
       refine xtk 10 (v := undef) rfl (Or.inr ⟨by rfl, rfl⟩) ?_
       try simp only [xap]
       refine xso 11 ?_ rfl ?_ ?_
       rotate_left
       · intro w hSw; (try dsimp only at hSw); go_simp; first | done | with_reducible rfl
       try simp only [xap]
       refine xdn ?_ _
       clear hHeld
       replace G := Hid.mk (G.out.trans d1)
       clear d1
       go_wp2_with fail
       exact ⟨⟨i + 1, by go_num, by omega, G⟩, by simp [intOf]; omega⟩
     · have hin : ¬ (i : Int) < (L.length : Int) := by omega
       have hge : (L.length : Int) ≤ (i : Int) := by omega
       have rA := Hid.mk (fun (W : World) (q : Gr wr W) => marked_ge typeM L i (by omega) (by rw [marked_len]; omega) ▸ (hA.out.gr (G.out.trans q)).elem (pre := []) typ_len i (by rw [marked_len]; omega) (i * 7) (by simp))
       go_upto_region 7 with fail
       have d1 : Gr wr wr.drew := (Gr.refl _).drew
       refine wp_region_held_drew (S := (fun _ => True)) (by kernel_rfl) (True.intro) (fun hHeld => ?_)
       refine xso 0 ?_ rfl ?_ (xso 1 ?_ rfl ?_ (xso 2 ?_ rfl ?_ (xso 3 ?_ rfl ?_ (xso 4 ?_ rfl ?_ ?_))))
       iterate 5 (rotate_left; focus ((try simp only [xap]); intro w hSw; (try dsimp only at hSw); go_simp; first | done | with_reducible rfl))
       try simp only [xap]
       refine xtk 5 (v := undef) rfl (Or.inr ⟨by rfl, rfl⟩) ?_
       try simp only [xap]
       refine xtk 6 (v := undef) rfl (Or.inr ⟨by rfl, rfl⟩) ?_
       try simp only [xap]
       refine xtk 7 (v := undef) rfl (Or.inr ⟨by rfl, rfl⟩) ?_
       try simp only [xap]
       refine xtk 8 (v := undef) rfl (Or.inr ⟨by rfl, rfl⟩) ?_
       try simp only [xap]
       refine xtk 9 (v := undef) rfl (Or.inr ⟨by rfl, rfl⟩) ?_
       try simp only [xap]
       refine xtk 10 (v := undef) rfl (Or.inr ⟨by rfl, rfl⟩) ?_
       try simp only [xap]
       refine xtk 11 (v := undef) rfl (Or.inr ⟨by rfl, rfl⟩) ?_
       try simp only [xap]
       refine xtk 12 (v := undef) rfl (Or.inr ⟨by rfl, rfl⟩) ?_
       try simp only [xap]
       refine xtk 13 (v := undef) rfl (Or.inr ⟨by rfl, rfl⟩) ?_
       try simp only [xap]
       refine xso 14 ?_ rfl ?_ ?_
       rotate_left
       · intro w hSw; (try dsimp only at hSw); go_simp; first | done | with_reducible rfl
       try simp only [xap]
       refine xdn ?_ _
       clear hHeld
       replace rA := Hid.mk (fun (W : World) (q : Gr wr.drew W) => rA.out W (d1.trans q))
       replace G := Hid.mk (G.out.trans d1)
       clear d1
       go_upto_region 9 with fail
       generalize wr.drew = wr at *
       have KS : Hid (∀ W, Gr wr W → W.rangeAt g (i * 7) (PTyp.vals typeM)) := Hid.mk (fun W q => rA.out W q)
       have d1 : Gr wr wr.drew := (Gr.refl _).drew
       refine wp_region_held_drew (S := (fun W => W.rangeAt g (i * 7) (PTyp.vals typeM))) (by kernel_rfl) (KS.out _ d1) (fun hHeld => ?_)
       refine xso 0 ?_ rfl ?_ (xso 1 ?_ rfl ?_ (xso 2 ?_ rfl ?_ (xso 3 ?_ rfl ?_ (xso 4 ?_ rfl ?_ ?_))))
       iterate 5 (rotate_left; focus ((try simp only [xap]); intro w hSw; (try dsimp only at hSw); go_simp; first | done | with_reducible rfl))
       try simp only [xap]
       refine xso 5 ?_ rfl ?_ ?_
       rotate_left
       · intro w hSw; (try dsimp only at hSw); go_simp; first | done | with_reducible rfl
       try simp only [xap]
       refine xso 6 ?_ rfl ?_ ?_
       rotate_left
       · intro w hSw; (try dsimp only at hSw); go_simp; first | done | with_reducible rfl
       try simp only [xap]
       refine xso 7 ?_ rfl ?_ ?_
       rotate_left
       · intro w hSw; (try dsimp only at hSw); go_simp; first | done | with_reducible rfl
       try simp only [xap]
       refine xtk 8 rfl (yieldsIf_load_mid (by rfl) _ _ rfl _ _ rfl _ _ (fun _ h => h) Tryz.underlying84 rfl (by kernel_rfl)) ?_
       try simp only [xap]
       refine xrd 9 rfl (fun K hK => ?_)
       go_simp
       go_wp2_with ((go_at_call 32; refine (hM.out _).mono ?_; rintro x wq ⟨rfl, q9⟩; have d1 : Gr wr wq := Gr.trans (by (repeat (first | with_reducible assumption | with_reducible exact Gr.refl _ | with_reducible refine Gr.drew ?_ | with_reducible refine Gr.alloc ?_ _))) q9; clear q9))
       refine hK.out _ _ (KS.out _ d1) (fun hHeld => ?_)
       clear hK K
       try simp only [xap]
       refine xso 10 ?_ rfl ?_ (xso 11 ?_ rfl ?_ ?_)
       iterate 2 (rotate_left; focus ((try simp only [xap]); intro w hSw; (try dsimp only at hSw); go_simp; first | done | with_reducible rfl))
       try simp only [xap]
       refine xdn ?_ _
       clear hHeld KS rA
       replace G := Hid.mk (G.out.trans d1)
       clear d1
       go_wp2_with fail
       exact ⟨⟨i + 1, by go_num, by omega, G⟩, by simp [intOf]; omega⟩
   · have hi1 : ¬ (i : Int) < (L.length : Int) + 8 := by omega
     go_wp2_with fail
     go_ret
     exact ⟨rfl, G.out⟩
end Q
end Go.Proofs.YtdlcphinjnnhcaaGreatDoor


namespace Go.Proofs.YtdlcphinjnnhcaaGreatDoor
set_option maxRecDepth 100000
set_option maxHeartbeats 40000000
namespace Q
open Go.RowKit

theorem stillComp_any (cm : PComp) (ra ka : Option Addr) (rc kc B gr gk : Nat) (w : World) (hR : At w gr (rowV [] PRoot.vals (marked rootM cm.roots)).toArray) (hK : At w gk (rowV [] Ins.vals (marked instM cm.code)).toArray) (hr : FIn 6 PRoot.vals B w ra cm.roots) (hk : LIn B w ka cm.code) (hB0 : B ≤ w.heap.size) (hbr : cm.roots.length ≤ 281474976710648) (hbk : cm.code.length ≤ 281474976710648) : Calls Tryz.prog 25 #[.agg #[.slice (some ⟨gr, 0, none⟩) cm.roots.length (cm.roots.length + 8), .slice (some ⟨gk, 0, none⟩) cm.code.length (cm.code.length + 8)], .agg #[.slice ra cm.roots.length rc, .slice ka cm.code.length kc]] w fun x w' => x = .returned (.bool true) ∧ Gr w w' := by
 have brw : wrap64 ((cm.roots.length : Int) + 8) = (cm.roots.length : Int) + 8 := by unfold wrap64; omega
 have brx : IntKind.i64.wrap ((cm.roots.length : Int) + 8) = (cm.roots.length : Int) + 8 := by rw [IntKind.wrap_i64]; omega
 have brl : (cm.roots.length : Int) ≤ (cm.roots.length : Int) + 8 := by omega
 have bkw : wrap64 ((cm.code.length : Int) + 8) = (cm.code.length : Int) + 8 := by unfold wrap64; omega
 have bkx : IntKind.i64.wrap ((cm.code.length : Int) + 8) = (cm.code.length : Int) + 8 := by rw [IntKind.wrap_i64]; omega
 have bkl : (cm.code.length : Int) ≤ (cm.code.length : Int) + 8 := by omega
 have hM := Hid.mk (fun W => instMark_any W)
 have hq := fun e W => neRot e W
 have hq' := fun e W => neIns e W
 have hqM : ∀ W, (binOp .neq 41 (.agg (Ins.vals instM).toArray) (.agg #[.int .u8 222, .int .i64 (-7), .int .i64 0, .int .i64 0, .int .i64 0])).run Tryz.prog W = .ok (.bool false) W := fun W => neIns instM W
 have hqR : ∀ W, (binOp .neq 51 (.agg (PRoot.vals rootM).toArray) (.agg #[.int .i64 (-7), .int .u64 0, .int .u64 0, .int .u64 0, .int .u8 0, .int .i64 0])).run Tryz.prog W = .ok (.bool false) W := fun W => neRot rootM W
 replace hR := Hid.mk hR
 replace hK := Hid.mk hK
 replace hr := Hid.mk hr
 replace hk := Hid.mk hk
 replace hB0 := Hid.mk hB0
 go_enter Tryz.func25, Tryz.ntmps25
 go_upto_region 1 with fail
 refine wp_world (fun W => At W w.heap.size #[.slice (some ⟨gr, 0, none⟩) cm.roots.length (cm.roots.length + 8), .slice (some ⟨gk, 0, none⟩) cm.code.length (cm.code.length + 8)] ∧ At W (w.heap.size + 1) #[.slice ra cm.roots.length rc, .slice ka cm.code.length kc] ∧ Gr w W) ⟨(At.at_ w _ _ rfl).alloc _, At.at_ _ _ _ (by simp), ((Gr.refl w).alloc _).alloc _⟩ ?_
 rintro W0 ⟨BT, BC, G0⟩
 replace BT := Hid.mk BT
 replace BC := Hid.mk BC
 replace G0 := Hid.mk G0
 have t0 : W0.cell? ⟨w.heap.size, 0, none⟩ = some (.slice (some ⟨gr, 0, none⟩) cm.roots.length (cm.roots.length + 8)) := BT.out.2.1 0
 have t1 : W0.cell? ⟨w.heap.size, 1, none⟩ = some (.slice (some ⟨gk, 0, none⟩) cm.code.length (cm.code.length + 8)) := BT.out.2.1 1
 have c0 : W0.cell? ⟨w.heap.size + 1, 0, none⟩ = some (.slice ra cm.roots.length rc) := BC.out.2.1 0
 have c1 : W0.cell? ⟨w.heap.size + 1, 1, none⟩ = some (.slice ka cm.code.length kc) := BC.out.2.1 1
 go_upto_region 5 with fail
 clear t0 t1 c0 c1
 have AR := Hid.mk (hR.out.gr G0.out)
 have LR := Hid.mk (hr.out.below (gr_below G0.out hB0.out))
 have hB : Hid (B ≤ W0.heap.size) := Hid.mk (Nat.le_trans hB0.out G0.out.below.size)
 have G := Hid.mk (Gr.refl W0)
 go_loopw [6] (fun x wr => ∃ i : Nat, x = .int .i64 i ∧ i ≤ cm.roots.length + 8 ∧ Hid (Gr W0 wr)) (fun x _ => cm.roots.length + 8 - (intOf x).toNat)
 case atStart => exact ⟨0, rfl, by omega, G⟩
 case round =>
   clear G
   obtain ⟨i, rfl, hi, G⟩ := hrel
   by_cases hlt : i < cm.roots.length + 8
   · have hi1 : (i : Int) < (cm.roots.length : Int) + 8 := by omega
     by_cases hn : i < cm.roots.length
     · have hin : (i : Int) < (cm.roots.length : Int) := by omega
       have hge : ¬ (cm.roots.length : Int) ≤ (i : Int) := by omega
       obtain ⟨b, off, ha, hb, rg⟩ := fin_at rot_len LR.out i hn
       subst ha
       have rA := Hid.mk (fun (W : World) (q : Gr wr W) => marked_lt rootM cm.roots i hn (by rw [marked_len]; omega) ▸ (AR.out.gr (G.out.trans q)).elem (pre := []) rot_len i (by rw [marked_len]; omega) (i * 6) (by simp))
       replace rg := Hid.mk rg
       generalize cm.roots[i] = e at *
       have KS : Hid (∀ W, Gr wr W → W.rangeAt gr (i * 6) (PRoot.vals e) ∧ W.rangeAt b (off + i * 6) (PRoot.vals e) ∧ W.cell? ⟨w.heap.size + 1, 0, none⟩ = some (.slice (some ⟨b, off, none⟩) cm.roots.length rc)) := Hid.mk (fun W q => ⟨rA.out W q, range_gr rg.out hb (gr_below (G.out.trans q) hB.out), (BC.out.gr (G.out.trans q)).2.1 0⟩)
       go_upto_region 7 with fail
       have d1 : Gr wr wr.drew := (Gr.refl _).drew
       refine wp_region_held_drew (S := (fun W => W.rangeAt gr (i * 6) (PRoot.vals e) ∧ W.rangeAt b (off + i * 6) (PRoot.vals e) ∧ W.cell? ⟨w.heap.size + 1, 0, none⟩ = some (.slice (some ⟨b, off, none⟩) cm.roots.length rc))) (by kernel_rfl) (KS.out _ d1) (fun hHeld => ?_)
       refine xso 0 ?_ rfl ?_ (xso 1 ?_ rfl ?_ (xso 2 ?_ rfl ?_ (xso 3 ?_ rfl ?_ (xso 4 ?_ rfl ?_ (xso 5 ?_ rfl ?_ ?_)))))
       iterate 6 (rotate_left; focus ((try simp only [xap]); intro w hSw; (try dsimp only at hSw); go_simp; first | done | with_reducible rfl))
       try simp only [xap]
       refine xso 6 ?_ rfl ?_ ?_
       rotate_left
       · intro w hSw; (try dsimp only at hSw); go_simp; first | done | with_reducible rfl
       try simp only [xap]
       refine xso 7 ?_ rfl ?_ ?_
       rotate_left
       · intro w hSw; (try dsimp only at hSw); go_simp; first | done | with_reducible rfl
       try simp only [xap]
       refine xso 8 ?_ rfl ?_ ?_
       rotate_left
       · intro w hSw; (try dsimp only at hSw); go_simp; first | done | with_reducible rfl
       try simp only [xap]
       refine xtk 9 rfl (yieldsIf_load_mid (by rfl) _ _ rfl _ _ rfl _ _ (fun _ h => h.1) Tryz.underlying51 rfl (by kernel_rfl)) ?_
       try simp only [xap]
       refine xso 10 ?_ rfl ?_ ?_
       rotate_left
       · intro w hSw; (try dsimp only at hSw); go_simp; first | done | with_reducible rfl
       try simp only [xap]
       refine xso 11 ?_ rfl ?_ ?_
       rotate_left
       · intro w hSw; (try dsimp only at hSw); go_simp; first | done | with_reducible rfl
       try simp only [xap]
       refine xso 12 ?_ rfl ?_ ?_
       rotate_left
       · intro w hSw; (try dsimp only at hSw); go_simp; first | done | with_reducible rfl
       try simp only [xap]
       refine xso 13 ?_ rfl ?_ ?_
       rotate_left
       · intro w hSw; (try dsimp only at hSw); go_simp; first | done | with_reducible rfl
       try simp only [xap]
       refine xtk 14 rfl (yieldsIf_load_mid (by rfl) _ _ rfl _ _ rfl _ _ (fun _ h => h.2.1) Tryz.underlying51 rfl (by kernel_rfl)) ?_
       try simp only [xap]
       refine xso 15 ?_ rfl ?_ (xso 16 ?_ rfl ?_ (xso 17 ?_ rfl ?_ ?_))
       iterate 3 (rotate_left; focus ((try simp only [xap]); intro w hSw; (try dsimp only at hSw); go_simp; first | done | with_reducible rfl))
       try simp only [xap]
       refine xso 18 ?_ rfl ?_ ?_
       rotate_left
       · intro w hSw; (try dsimp only at hSw); go_simp; first | done | with_reducible rfl
       try simp only [xap]
       refine xso 19 ?_ rfl ?_ ?_
       rotate_left
       · intro w hSw; (try dsimp only at hSw); go_simp; first | done | with_reducible rfl
       try simp only [xap]
       refine xso 20 ?_ rfl ?_ ?_
       rotate_left
       · intro w hSw; (try dsimp only at hSw); go_simp; first | done | with_reducible rfl
       try simp only [xap]
       refine xso 21 ?_ rfl ?_ ?_
       rotate_left
       · intro w hSw; (try dsimp only at hSw); go_simp; first | done | with_reducible rfl
       try simp only [xap]
       refine xso 22 ?_ rfl ?_ ?_
       rotate_left
       · intro w hSw; (try dsimp only at hSw); go_simp; first | done | with_reducible rfl
       try simp only [xap]
       refine xso 23 ?_ rfl ?_ ?_
       rotate_left
       · intro w hSw; (try dsimp only at hSw); go_simp; first | done | with_reducible rfl
       try simp only [xap]
       refine xtk 24 (v := undef) rfl (Or.inr ⟨by rfl, rfl⟩) ?_
       try simp only [xap]
       refine xtk 25 (v := undef) rfl (Or.inr ⟨by rfl, rfl⟩) ?_
       try simp only [xap]
       refine xtk 26 (v := undef) rfl (Or.inr ⟨by rfl, rfl⟩) ?_
       try simp only [xap]
       refine xtk 27 (v := undef) rfl (Or.inr ⟨by rfl, rfl⟩) ?_
       try simp only [xap]
       refine xtk 28 (v := undef) rfl (Or.inr ⟨by rfl, rfl⟩) ?_
       try simp only [xap]
       refine xtk 29 (v := undef) rfl (Or.inr ⟨by rfl, rfl⟩) ?_
       try simp only [xap]
       refine xso 30 ?_ rfl ?_ (xso 31 ?_ rfl ?_ ?_)
       iterate 2 (rotate_left; focus ((try simp only [xap]); intro w hSw; (try dsimp only at hSw); go_simp; first | done | with_reducible rfl))
       try simp only [xap]
       refine xdn ?_ _
       clear hHeld KS rA rg
       replace G := Hid.mk (G.out.trans d1)
       clear d1
       go_wp2_with fail
       exact ⟨⟨i + 1, by go_num, by omega, G⟩, by simp [intOf]; omega⟩
     · have hin : ¬ (i : Int) < (cm.roots.length : Int) := by omega
       have hge : (cm.roots.length : Int) ≤ (i : Int) := by omega
       have rA := Hid.mk (fun (W : World) (q : Gr wr W) => marked_ge rootM cm.roots i (by omega) (by rw [marked_len]; omega) ▸ (AR.out.gr (G.out.trans q)).elem (pre := []) rot_len i (by rw [marked_len]; omega) (i * 6) (by simp))
       have KS : Hid (∀ W, Gr wr W → W.rangeAt gr (i * 6) (PRoot.vals rootM) ∧ W.cell? ⟨w.heap.size + 1, 0, none⟩ = some (.slice ra cm.roots.length rc)) := Hid.mk (fun W q => ⟨rA.out W q, (BC.out.gr (G.out.trans q)).2.1 0⟩)
       go_upto_region 7 with fail
       have d1 : Gr wr wr.drew := (Gr.refl _).drew
       refine wp_region_held_drew (S := (fun W => W.rangeAt gr (i * 6) (PRoot.vals rootM) ∧ W.cell? ⟨w.heap.size + 1, 0, none⟩ = some (.slice ra cm.roots.length rc))) (by kernel_rfl) (KS.out _ d1) (fun hHeld => ?_)
       refine xso 0 ?_ rfl ?_ (xso 1 ?_ rfl ?_ (xso 2 ?_ rfl ?_ (xso 3 ?_ rfl ?_ (xso 4 ?_ rfl ?_ (xso 5 ?_ rfl ?_ ?_)))))
       iterate 6 (rotate_left; focus ((try simp only [xap]); intro w hSw; (try dsimp only at hSw); go_simp; first | done | with_reducible rfl))
       try simp only [xap]
       refine xtk 6 (v := undef) rfl (Or.inr ⟨by rfl, rfl⟩) ?_
       try simp only [xap]
       refine xtk 7 (v := undef) rfl (Or.inr ⟨by rfl, rfl⟩) ?_
       try simp only [xap]
       refine xtk 8 (v := undef) rfl (Or.inr ⟨by rfl, rfl⟩) ?_
       try simp only [xap]
       refine xtk 9 (v := undef) rfl (Or.inr ⟨by rfl, rfl⟩) ?_
       try simp only [xap]
       refine xtk 10 (v := undef) rfl (Or.inr ⟨by rfl, rfl⟩) ?_
       try simp only [xap]
       refine xtk 11 (v := undef) rfl (Or.inr ⟨by rfl, rfl⟩) ?_
       try simp only [xap]
       refine xtk 12 (v := undef) rfl (Or.inr ⟨by rfl, rfl⟩) ?_
       try simp only [xap]
       refine xtk 13 (v := undef) rfl (Or.inr ⟨by rfl, rfl⟩) ?_
       try simp only [xap]
       refine xtk 14 (v := undef) rfl (Or.inr ⟨by rfl, rfl⟩) ?_
       try simp only [xap]
       refine xtk 15 (v := undef) rfl (Or.inr ⟨by rfl, rfl⟩) ?_
       try simp only [xap]
       refine xso 16 ?_ rfl ?_ (xso 17 ?_ rfl ?_ ?_)
       iterate 2 (rotate_left; focus ((try simp only [xap]); intro w hSw; (try dsimp only at hSw); go_simp; first | done | with_reducible rfl))
       try simp only [xap]
       refine xso 18 ?_ rfl ?_ ?_
       rotate_left
       · intro w hSw; (try dsimp only at hSw); go_simp; first | done | with_reducible rfl
       try simp only [xap]
       refine xso 19 ?_ rfl ?_ ?_
       rotate_left
       · intro w hSw; (try dsimp only at hSw); go_simp; first | done | with_reducible rfl
       try simp only [xap]
       refine xso 20 ?_ rfl ?_ ?_
       rotate_left
       · intro w hSw; (try dsimp only at hSw); go_simp; first | done | with_reducible rfl
       try simp only [xap]
       refine xso 21 ?_ rfl ?_ ?_
       rotate_left
       · intro w hSw; (try dsimp only at hSw); go_simp; first | done | with_reducible rfl
       try simp only [xap]
       refine xso 22 ?_ rfl ?_ ?_
       rotate_left
       · intro w hSw; (try dsimp only at hSw); go_simp; first | done | with_reducible rfl
       try simp only [xap]
       refine xso 23 ?_ rfl ?_ ?_
       rotate_left
       · intro w hSw; (try dsimp only at hSw); go_simp; first | done | with_reducible rfl
       try simp only [xap]
       refine xso 24 ?_ rfl ?_ ?_
       rotate_left
       · intro w hSw; (try dsimp only at hSw); go_simp; first | done | with_reducible rfl
       try simp only [xap]
       refine xso 25 ?_ rfl ?_ ?_
       rotate_left
       · intro w hSw; (try dsimp only at hSw); go_simp; first | done | with_reducible rfl
       try simp only [xap]
       refine xso 26 ?_ rfl ?_ ?_
       rotate_left
       · intro w hSw; (try dsimp only at hSw); go_simp; first | done | with_reducible rfl
       try simp only [xap]
       refine xtk 27 rfl (yieldsIf_load_mid (by rfl) _ _ rfl _ _ rfl _ _ (fun _ h => h.1) Tryz.underlying51 rfl (by kernel_rfl)) ?_
       try simp only [xap]
       refine xso 28 ?_ rfl ?_ ?_
       rotate_left
       · intro w hSw; (try dsimp only at hSw); go_simp; first | done | with_reducible rfl
       try simp only [xap]
       refine xso 29 ?_ rfl ?_ ?_
       rotate_left
       · intro w hSw; (try dsimp only at hSw); go_simp; first | done | with_reducible rfl
       try simp only [xap]
       refine xso 30 ?_ rfl ?_ (xso 31 ?_ rfl ?_ ?_)
       iterate 2 (rotate_left; focus ((try simp only [xap]); intro w hSw; (try dsimp only at hSw); go_simp; first | done | with_reducible rfl))
       try simp only [xap]
       refine xdn ?_ _
       clear hHeld KS rA
       replace G := Hid.mk (G.out.trans d1)
       clear d1
       go_wp2_with fail
       exact ⟨⟨i + 1, by go_num, by omega, G⟩, by simp [intOf]; omega⟩
   · have hi1 : ¬ (i : Int) < (cm.roots.length : Int) + 8 := by omega
     clear hB
     have G1 := Hid.mk (Gr.refl wr)
     replace G0 := Hid.mk (G0.out.trans G.out)
     replace BT := Hid.mk (BT.out.gr G.out)
     replace BC := Hid.mk (BC.out.gr G.out)
     have AK := Hid.mk (hK.out.gr G0.out)
     have LK := Hid.mk (lin_fin (hk.out.below (gr_below G0.out hB0.out)))
     have hB : Hid (B ≤ wr.heap.size) := Hid.mk (Nat.le_trans hB0.out G0.out.below.size)
     clear G AR LR
     generalize wr = W1 at *
     have t1 : W1.cell? ⟨w.heap.size, 1, none⟩ = some (.slice (some ⟨gk, 0, none⟩) cm.code.length (cm.code.length + 8)) := BT.out.2.1 1
     have c1 : W1.cell? ⟨w.heap.size + 1, 1, none⟩ = some (.slice ka cm.code.length kc) := BC.out.2.1 1
     go_upto_region 11 with fail
     clear t1 c1
     go_loopw [8] (fun x wr => ∃ i : Nat, x = .int .i64 i ∧ i ≤ cm.code.length + 8 ∧ Hid (Gr W1 wr)) (fun x _ => cm.code.length + 8 - (intOf x).toNat)
     case atStart => exact ⟨0, rfl, by omega, G1⟩
     case round =>
       clear G1
       obtain ⟨i, rfl, hi, G⟩ := hrel
       by_cases hlt : i < cm.code.length + 8
       · have hi1 : (i : Int) < (cm.code.length : Int) + 8 := by omega
         by_cases hn : i < cm.code.length
         · have hin : (i : Int) < (cm.code.length : Int) := by omega
           have hge : ¬ (cm.code.length : Int) ≤ (i : Int) := by omega
           obtain ⟨b, off, ha, hb, rg⟩ := fin_at ins_len LK.out i hn
           subst ha
           have rA := Hid.mk (fun (W : World) (q : Gr wr W) => marked_lt instM cm.code i hn (by rw [marked_len]; omega) ▸ (AK.out.gr (G.out.trans q)).elem (pre := []) ins_len i (by rw [marked_len]; omega) (i * 5) (by simp))
           replace rg := Hid.mk rg
           generalize cm.code[i] = e at *
           have KS : Hid (∀ W, Gr wr W → W.rangeAt gk (i * 5) (Ins.vals e) ∧ W.rangeAt b (off + i * 5) (Ins.vals e) ∧ W.cell? ⟨w.heap.size + 1, 1, none⟩ = some (.slice (some ⟨b, off, none⟩) cm.code.length kc)) := Hid.mk (fun W q => ⟨rA.out W q, range_gr rg.out hb (gr_below (G.out.trans q) hB.out), (BC.out.gr (G.out.trans q)).2.1 1⟩)
           go_upto_region 13 with fail
           have d1 : Gr wr wr.drew := (Gr.refl _).drew
           refine wp_region_held_drew (S := (fun W => W.rangeAt gk (i * 5) (Ins.vals e) ∧ W.rangeAt b (off + i * 5) (Ins.vals e) ∧ W.cell? ⟨w.heap.size + 1, 1, none⟩ = some (.slice (some ⟨b, off, none⟩) cm.code.length kc))) (by kernel_rfl) (KS.out _ d1) (fun hHeld => ?_)
           refine xso 0 ?_ rfl ?_ (xso 1 ?_ rfl ?_ (xso 2 ?_ rfl ?_ (xso 3 ?_ rfl ?_ (xso 4 ?_ rfl ?_ (xso 5 ?_ rfl ?_ ?_)))))
           iterate 6 (rotate_left; focus ((try simp only [xap]); intro w hSw; (try dsimp only at hSw); go_simp; first | done | with_reducible rfl))
           try simp only [xap]
           refine xso 6 ?_ rfl ?_ ?_
           rotate_left
           · intro w hSw; (try dsimp only at hSw); go_simp; first | done | with_reducible rfl
           try simp only [xap]
           refine xso 7 ?_ rfl ?_ ?_
           rotate_left
           · intro w hSw; (try dsimp only at hSw); go_simp; first | done | with_reducible rfl
           try simp only [xap]
           refine xso 8 ?_ rfl ?_ ?_
           rotate_left
           · intro w hSw; (try dsimp only at hSw); go_simp; first | done | with_reducible rfl
           try simp only [xap]
           refine xtk 9 rfl (yieldsIf_load_mid (by rfl) _ _ rfl _ _ rfl _ _ (fun _ h => h.1) Tryz.underlying41 rfl (by kernel_rfl)) ?_
           try simp only [xap]
           refine xso 10 ?_ rfl ?_ ?_
           rotate_left
           · intro w hSw; (try dsimp only at hSw); go_simp; first | done | with_reducible rfl
           try simp only [xap]
           refine xso 11 ?_ rfl ?_ ?_
           rotate_left
           · intro w hSw; (try dsimp only at hSw); go_simp; first | done | with_reducible rfl
           try simp only [xap]
           refine xso 12 ?_ rfl ?_ ?_
           rotate_left
           · intro w hSw; (try dsimp only at hSw); go_simp; first | done | with_reducible rfl
           try simp only [xap]
           refine xso 13 ?_ rfl ?_ ?_
           rotate_left
           · intro w hSw; (try dsimp only at hSw); go_simp; first | done | with_reducible rfl
           try simp only [xap]
           refine xtk 14 rfl (yieldsIf_load_mid (by rfl) _ _ rfl _ _ rfl _ _ (fun _ h => h.2.1) Tryz.underlying41 rfl (by kernel_rfl)) ?_
           try simp only [xap]
           refine xso 15 ?_ rfl ?_ (xso 16 ?_ rfl ?_ (xso 17 ?_ rfl ?_ ?_))
           iterate 3 (rotate_left; focus ((try simp only [xap]); intro w hSw; (try dsimp only at hSw); go_simp; first | done | with_reducible rfl))
           try simp only [xap]
           refine xso 18 ?_ rfl ?_ ?_
           rotate_left
           · intro w hSw; (try dsimp only at hSw); go_simp; first | done | with_reducible rfl
           try simp only [xap]
           refine xso 19 ?_ rfl ?_ ?_
           rotate_left
           · intro w hSw; (try dsimp only at hSw); go_simp; first | done | with_reducible rfl
           try simp only [xap]
           refine xso 20 ?_ rfl ?_ ?_
           rotate_left
           · intro w hSw; (try dsimp only at hSw); go_simp; first | done | with_reducible rfl
           try simp only [xap]
           refine xso 21 ?_ rfl ?_ ?_
           rotate_left
           · intro w hSw; (try dsimp only at hSw); go_simp; first | done | with_reducible rfl
           try simp only [xap]
           refine xso 22 ?_ rfl ?_ ?_
           rotate_left
           · intro w hSw; (try dsimp only at hSw); go_simp; first | done | with_reducible rfl
           try simp only [xap]
           refine xso 23 ?_ rfl ?_ ?_
           rotate_left
           · intro w hSw; (try dsimp only at hSw); go_simp; first | done | with_reducible rfl
           try simp only [xap]
           refine xtk 24 (v := undef) rfl (Or.inr ⟨by rfl, rfl⟩) ?_
           try simp only [xap]
           refine xtk 25 (v := undef) rfl (Or.inr ⟨by rfl, rfl⟩) ?_
           try simp only [xap]
           refine xtk 26 (v := undef) rfl (Or.inr ⟨by rfl, rfl⟩) ?_
           try simp only [xap]
           refine xtk 27 (v := undef) rfl (Or.inr ⟨by rfl, rfl⟩) ?_
           try simp only [xap]
           refine xtk 28 (v := undef) rfl (Or.inr ⟨by rfl, rfl⟩) ?_
           try simp only [xap]
           refine xtk 29 (v := undef) rfl (Or.inr ⟨by rfl, rfl⟩) ?_
           try simp only [xap]
           refine xso 30 ?_ rfl ?_ (xso 31 ?_ rfl ?_ ?_)
           iterate 2 (rotate_left; focus ((try simp only [xap]); intro w hSw; (try dsimp only at hSw); go_simp; first | done | with_reducible rfl))
           try simp only [xap]
           refine xdn ?_ _
           clear hHeld KS rA rg
           replace G := Hid.mk (G.out.trans d1)
           clear d1
           go_wp2_with fail
           exact ⟨⟨i + 1, by go_num, by omega, G⟩, by simp [intOf]; omega⟩
         · have hin : ¬ (i : Int) < (cm.code.length : Int) := by omega
           have hge : (cm.code.length : Int) ≤ (i : Int) := by omega
           have rA := Hid.mk (fun (W : World) (q : Gr wr W) => marked_ge instM cm.code i (by omega) (by rw [marked_len]; omega) ▸ (AK.out.gr (G.out.trans q)).elem (pre := []) ins_len i (by rw [marked_len]; omega) (i * 5) (by simp))
           have KS : Hid (∀ W, Gr wr W → W.rangeAt gk (i * 5) (Ins.vals instM) ∧ W.cell? ⟨w.heap.size + 1, 1, none⟩ = some (.slice ka cm.code.length kc)) := Hid.mk (fun W q => ⟨rA.out W q, (BC.out.gr (G.out.trans q)).2.1 1⟩)
           go_upto_region 13 with fail
           have d1 : Gr wr wr.drew := (Gr.refl _).drew
           refine wp_region_held_drew (S := (fun W => W.rangeAt gk (i * 5) (Ins.vals instM) ∧ W.cell? ⟨w.heap.size + 1, 1, none⟩ = some (.slice ka cm.code.length kc))) (by kernel_rfl) (KS.out _ d1) (fun hHeld => ?_)
           refine xso 0 ?_ rfl ?_ (xso 1 ?_ rfl ?_ (xso 2 ?_ rfl ?_ (xso 3 ?_ rfl ?_ (xso 4 ?_ rfl ?_ (xso 5 ?_ rfl ?_ ?_)))))
           iterate 6 (rotate_left; focus ((try simp only [xap]); intro w hSw; (try dsimp only at hSw); go_simp; first | done | with_reducible rfl))
           try simp only [xap]
           refine xtk 6 (v := undef) rfl (Or.inr ⟨by rfl, rfl⟩) ?_
           try simp only [xap]
           refine xtk 7 (v := undef) rfl (Or.inr ⟨by rfl, rfl⟩) ?_
           try simp only [xap]
           refine xtk 8 (v := undef) rfl (Or.inr ⟨by rfl, rfl⟩) ?_
           try simp only [xap]
           refine xtk 9 (v := undef) rfl (Or.inr ⟨by rfl, rfl⟩) ?_
           try simp only [xap]
           refine xtk 10 (v := undef) rfl (Or.inr ⟨by rfl, rfl⟩) ?_
           try simp only [xap]
           refine xtk 11 (v := undef) rfl (Or.inr ⟨by rfl, rfl⟩) ?_
           try simp only [xap]
           refine xtk 12 (v := undef) rfl (Or.inr ⟨by rfl, rfl⟩) ?_
           try simp only [xap]
           refine xtk 13 (v := undef) rfl (Or.inr ⟨by rfl, rfl⟩) ?_
           try simp only [xap]
           refine xtk 14 (v := undef) rfl (Or.inr ⟨by rfl, rfl⟩) ?_
           try simp only [xap]
           refine xtk 15 (v := undef) rfl (Or.inr ⟨by rfl, rfl⟩) ?_
           try simp only [xap]
           refine xso 16 ?_ rfl ?_ (xso 17 ?_ rfl ?_ ?_)
           iterate 2 (rotate_left; focus ((try simp only [xap]); intro w hSw; (try dsimp only at hSw); go_simp; first | done | with_reducible rfl))
           try simp only [xap]
           refine xso 18 ?_ rfl ?_ ?_
           rotate_left
           · intro w hSw; (try dsimp only at hSw); go_simp; first | done | with_reducible rfl
           try simp only [xap]
           refine xso 19 ?_ rfl ?_ ?_
           rotate_left
           · intro w hSw; (try dsimp only at hSw); go_simp; first | done | with_reducible rfl
           try simp only [xap]
           refine xso 20 ?_ rfl ?_ ?_
           rotate_left
           · intro w hSw; (try dsimp only at hSw); go_simp; first | done | with_reducible rfl
           try simp only [xap]
           refine xso 21 ?_ rfl ?_ ?_
           rotate_left
           · intro w hSw; (try dsimp only at hSw); go_simp; first | done | with_reducible rfl
           try simp only [xap]
           refine xso 22 ?_ rfl ?_ ?_
           rotate_left
           · intro w hSw; (try dsimp only at hSw); go_simp; first | done | with_reducible rfl
           try simp only [xap]
           refine xso 23 ?_ rfl ?_ ?_
           rotate_left
           · intro w hSw; (try dsimp only at hSw); go_simp; first | done | with_reducible rfl
           try simp only [xap]
           refine xso 24 ?_ rfl ?_ ?_
           rotate_left
           · intro w hSw; (try dsimp only at hSw); go_simp; first | done | with_reducible rfl
           try simp only [xap]
           refine xso 25 ?_ rfl ?_ ?_
           rotate_left
           · intro w hSw; (try dsimp only at hSw); go_simp; first | done | with_reducible rfl
           try simp only [xap]
           refine xso 26 ?_ rfl ?_ ?_
           rotate_left
           · intro w hSw; (try dsimp only at hSw); go_simp; first | done | with_reducible rfl
           try simp only [xap]
           refine xtk 27 rfl (yieldsIf_load_mid (by rfl) _ _ rfl _ _ rfl _ _ (fun _ h => h.1) Tryz.underlying41 rfl (by kernel_rfl)) ?_
           try simp only [xap]
           refine xrd 28 rfl (fun K hK => ?_)
           go_simp
           go_wp2_with ((go_at_call 33; refine (hM.out _).mono ?_; rintro x wq ⟨rfl, q9⟩; have d1 : Gr wr wq := Gr.trans (by (repeat (first | with_reducible assumption | with_reducible exact Gr.refl _ | with_reducible refine Gr.drew ?_ | with_reducible refine Gr.alloc ?_ _))) q9; clear q9))
           refine hK.out _ _ (KS.out _ d1) (fun hHeld => ?_)
           clear hK K
           try simp only [xap]
           refine xso 29 ?_ rfl ?_ ?_
           rotate_left
           · intro w hSw; (try dsimp only at hSw); go_simp; first | done | with_reducible rfl
           try simp only [xap]
           refine xso 30 ?_ rfl ?_ (xso 31 ?_ rfl ?_ ?_)
           iterate 2 (rotate_left; focus ((try simp only [xap]); intro w hSw; (try dsimp only at hSw); go_simp; first | done | with_reducible rfl))
           try simp only [xap]
           refine xdn ?_ _
           clear hHeld KS rA
           replace G := Hid.mk (G.out.trans d1)
           clear d1
           go_wp2_with fail
           exact ⟨⟨i + 1, by go_num, by omega, G⟩, by simp [intOf]; omega⟩
       · have hi1 : ¬ (i : Int) < (cm.code.length : Int) + 8 := by omega
         go_wp2_with fail
         go_ret
         exact ⟨rfl, G0.out.trans G.out⟩
end Q
end Go.Proofs.YtdlcphinjnnhcaaGreatDoor


namespace Go.Proofs.YtdlcphinjnnhcaaGreatDoor
set_option maxRecDepth 100000
set_option maxHeartbeats 40000000
namespace Q
open Go.RowKit

theorem stillRegion_nil (rr : PReg) (sa : Option Addr) (sc : Nat) (w : World) (hn : rr.slots = []) : Calls Tryz.prog 24 #[.agg #[.int .u64 rr.b, .int .u64 rr.n, .string (str rr.data), .slice none 0 0], .agg #[.int .u64 rr.b, .int .u64 rr.n, .string (str rr.data), .slice sa rr.slots.length sc]] w fun x w' => x = .returned (.bool true) ∧ Gr w w' := by
 have hl : rr.slots.length = 0 := by rw [hn]; rfl
 rw [hl]
 go_enter Tryz.func24, Tryz.ntmps24
 go_upto_region 1 with fail
 refine wp_world (fun W => At W w.heap.size #[.int .u64 rr.b, .int .u64 rr.n, .string (str rr.data), .slice none 0 0] ∧ At W (w.heap.size + 1) #[.int .u64 rr.b, .int .u64 rr.n, .string (str rr.data), .slice sa 0 sc] ∧ Gr w W) ⟨(At.at_ w _ _ rfl).alloc _, At.at_ _ _ _ (by simp), ((Gr.refl w).alloc _).alloc _⟩ ?_
 rintro W0 ⟨BT, BC, G0⟩
 replace BT := Hid.mk BT
 replace BC := Hid.mk BC
 replace G0 := Hid.mk G0
 have t0 : W0.cell? ⟨w.heap.size, 0, none⟩ = some (.int .u64 rr.b) := BT.out.2.1 0
 have t1 : W0.cell? ⟨w.heap.size, 1, none⟩ = some (.int .u64 rr.n) := BT.out.2.1 1
 have t2 : W0.cell? ⟨w.heap.size, 2, none⟩ = some (.string (str rr.data)) := BT.out.2.1 2
 have t3 : W0.cell? ⟨w.heap.size, 3, none⟩ = some (.slice none 0 0) := BT.out.2.1 3
 have c0 : W0.cell? ⟨w.heap.size + 1, 0, none⟩ = some (.int .u64 rr.b) := BC.out.2.1 0
 have c1 : W0.cell? ⟨w.heap.size + 1, 1, none⟩ = some (.int .u64 rr.n) := BC.out.2.1 1
 have c2 : W0.cell? ⟨w.heap.size + 1, 2, none⟩ = some (.string (str rr.data)) := BC.out.2.1 2
 have c3 : W0.cell? ⟨w.heap.size + 1, 3, none⟩ = some (.slice sa 0 sc) := BC.out.2.1 3
 clear hl hn
 go_wp2_with fail
 go_ret
 exact ⟨rfl, G0.out⟩
theorem stillRegion_some (rr : PReg) (sa : Option Addr) (sc B gs : Nat) (w : World) (hA0 : At w gs (rowV [] PSlot.vals (marked slotM rr.slots)).toArray) (hs : FIn 8 PSlot.vals B w sa rr.slots) (hB0 : B ≤ w.heap.size) (hbs : rr.slots.length ≤ 281474976710648) (hn0 : rr.slots ≠ []) : Calls Tryz.prog 24 #[.agg #[.int .u64 rr.b, .int .u64 rr.n, .string (str rr.data), .slice (some ⟨gs, 0, none⟩) rr.slots.length (rr.slots.length + 8)], .agg #[.int .u64 rr.b, .int .u64 rr.n, .string (str rr.data), .slice sa rr.slots.length sc]] w fun x w' => x = .returned (.bool true) ∧ Gr w w' := by
 have bsw : wrap64 ((rr.slots.length : Int) + 8) = (rr.slots.length : Int) + 8 := by unfold wrap64; omega
 have bsx : IntKind.i64.wrap ((rr.slots.length : Int) + 8) = (rr.slots.length : Int) + 8 := by rw [IntKind.wrap_i64]; omega
 have bsl : (rr.slots.length : Int) ≤ (rr.slots.length : Int) + 8 := by omega
 have hM := Hid.mk (fun W => typeMark_any W)
 have hq := fun e W => neSlt e W
 have hqM : ∀ W, (binOp .neq 87 (.agg (PSlot.vals slotM).toArray) (.agg #[.bool true, .int .u64 77, .int .u64 0, .int .u64 0, .int .u64 0, .int .u8 0, .int .i64 222, .int .u64 0])).run Tryz.prog W = .ok (.bool false) W := fun W => neSlt slotM W
 have hl9 : rr.slots.length ≠ 0 := fun h => hn0 (List.length_eq_zero_iff.1 h)
 have hl8 : ((rr.slots.length : Int) == 0) = false := by rw [beq_eq_false_iff_ne]; omega
 have hl7 : ¬ (rr.slots.length : Int) = 0 := by omega
 have hl6 : rr.slots ≠ [] := hn0
 replace hA0 := Hid.mk hA0
 replace hs := Hid.mk hs
 replace hB0 := Hid.mk hB0
 go_enter Tryz.func24, Tryz.ntmps24
 go_upto_region 1 with fail
 refine wp_world (fun W => At W w.heap.size #[.int .u64 rr.b, .int .u64 rr.n, .string (str rr.data), .slice (some ⟨gs, 0, none⟩) rr.slots.length (rr.slots.length + 8)] ∧ At W (w.heap.size + 1) #[.int .u64 rr.b, .int .u64 rr.n, .string (str rr.data), .slice sa rr.slots.length sc] ∧ Gr w W) ⟨(At.at_ w _ _ rfl).alloc _, At.at_ _ _ _ (by simp), ((Gr.refl w).alloc _).alloc _⟩ ?_
 rintro W0 ⟨BT, BC, G0⟩
 replace BT := Hid.mk BT
 replace BC := Hid.mk BC
 replace G0 := Hid.mk G0
 have t0 : W0.cell? ⟨w.heap.size, 0, none⟩ = some (.int .u64 rr.b) := BT.out.2.1 0
 have t1 : W0.cell? ⟨w.heap.size, 1, none⟩ = some (.int .u64 rr.n) := BT.out.2.1 1
 have t2 : W0.cell? ⟨w.heap.size, 2, none⟩ = some (.string (str rr.data)) := BT.out.2.1 2
 have t3 : W0.cell? ⟨w.heap.size, 3, none⟩ = some (.slice (some ⟨gs, 0, none⟩) rr.slots.length (rr.slots.length + 8)) := BT.out.2.1 3
 have c0 : W0.cell? ⟨w.heap.size + 1, 0, none⟩ = some (.int .u64 rr.b) := BC.out.2.1 0
 have c1 : W0.cell? ⟨w.heap.size + 1, 1, none⟩ = some (.int .u64 rr.n) := BC.out.2.1 1
 have c2 : W0.cell? ⟨w.heap.size + 1, 2, none⟩ = some (.string (str rr.data)) := BC.out.2.1 2
 have c3 : W0.cell? ⟨w.heap.size + 1, 3, none⟩ = some (.slice sa rr.slots.length sc) := BC.out.2.1 3
 go_upto_region 7 with fail
 clear t0 t1 t2 t3 c0 c1 c2 c3
 have AR := Hid.mk (hA0.out.gr G0.out)
 have LR := Hid.mk (hs.out.below (gr_below G0.out hB0.out))
 have hB : Hid (B ≤ W0.heap.size) := Hid.mk (Nat.le_trans hB0.out G0.out.below.size)
 have G := Hid.mk (Gr.refl W0)
 go_loopw [6] (fun x wr => ∃ i : Nat, x = .int .i64 i ∧ i ≤ rr.slots.length + 8 ∧ Hid (Gr W0 wr)) (fun x _ => rr.slots.length + 8 - (intOf x).toNat)
 case atStart => exact ⟨0, rfl, by omega, G⟩
 case round =>
   clear G
   obtain ⟨i, rfl, hi, G⟩ := hrel
   by_cases hlt : i < rr.slots.length + 8
   · have hi1 : (i : Int) < (rr.slots.length : Int) + 8 := by omega
     by_cases hn : i < rr.slots.length
     · have hin : (i : Int) < (rr.slots.length : Int) := by omega
       have hge : ¬ (rr.slots.length : Int) ≤ (i : Int) := by omega
       obtain ⟨b, off, ha, hb, rg⟩ := fin_at slt_len LR.out i hn
       subst ha
       have rA := Hid.mk (fun (W : World) (q : Gr wr W) => marked_lt slotM rr.slots i hn (by rw [marked_len]; omega) ▸ (AR.out.gr (G.out.trans q)).elem (pre := []) slt_len i (by rw [marked_len]; omega) (i * 8) (by simp))
       replace rg := Hid.mk rg
       generalize rr.slots[i] = e at *
       have KS : Hid (∀ W, Gr wr W → W.rangeAt gs (i * 8) (PSlot.vals e) ∧ W.rangeAt b (off + i * 8) (PSlot.vals e) ∧ W.cell? ⟨w.heap.size + 1, 3, none⟩ = some (.slice (some ⟨b, off, none⟩) rr.slots.length sc)) := Hid.mk (fun W q => ⟨rA.out W q, range_gr rg.out hb (gr_below (G.out.trans q) hB.out), (BC.out.gr (G.out.trans q)).2.1 3⟩)
       go_upto_region 9 with fail
       have d1 : Gr wr wr.drew := (Gr.refl _).drew
       refine wp_region_held_drew (S := (fun W => W.rangeAt gs (i * 8) (PSlot.vals e) ∧ W.rangeAt b (off + i * 8) (PSlot.vals e) ∧ W.cell? ⟨w.heap.size + 1, 3, none⟩ = some (.slice (some ⟨b, off, none⟩) rr.slots.length sc))) (by kernel_rfl) (KS.out _ d1) (fun hHeld => ?_)
       refine xso 0 ?_ rfl ?_ (xso 1 ?_ rfl ?_ (xso 2 ?_ rfl ?_ (xso 3 ?_ rfl ?_ (xso 4 ?_ rfl ?_ (xso 5 ?_ rfl ?_ ?_)))))
       iterate 6 (rotate_left; focus ((try simp only [xap]); intro w hSw; (try dsimp only at hSw); go_simp; first | done | with_reducible rfl))
       try simp only [xap]
       refine xso 6 ?_ rfl ?_ ?_
       rotate_left
       · intro w hSw; (try dsimp only at hSw); go_simp; first | done | with_reducible rfl
       try simp only [xap]
       refine xso 7 ?_ rfl ?_ ?_
       rotate_left
       · intro w hSw; (try dsimp only at hSw); go_simp; first | done | with_reducible rfl
       try simp only [xap]
       refine xso 8 ?_ rfl ?_ ?_
       rotate_left
       · intro w hSw; (try dsimp only at hSw); go_simp; first | done | with_reducible rfl
       try simp only [xap]
       refine xtk 9 rfl (yieldsIf_load_mid (by rfl) _ _ rfl _ _ rfl _ _ (fun _ h => h.1) Tryz.underlying87 rfl (by kernel_rfl)) ?_
       try simp only [xap]
       refine xso 10 ?_ rfl ?_ ?_
       rotate_left
       · intro w hSw; (try dsimp only at hSw); go_simp; first | done | with_reducible rfl
       try simp only [xap]
       refine xso 11 ?_ rfl ?_ ?_
       rotate_left
       · intro w hSw; (try dsimp only at hSw); go_simp; first | done | with_reducible rfl
       try simp only [xap]
       refine xso 12 ?_ rfl ?_ ?_
       rotate_left
       · intro w hSw; (try dsimp only at hSw); go_simp; first | done | with_reducible rfl
       try simp only [xap]
       refine xso 13 ?_ rfl ?_ ?_
       rotate_left
       · intro w hSw; (try dsimp only at hSw); go_simp; first | done | with_reducible rfl
       try simp only [xap]
       refine xtk 14 rfl (yieldsIf_load_mid (by rfl) _ _ rfl _ _ rfl _ _ (fun _ h => h.2.1) Tryz.underlying87 rfl (by kernel_rfl)) ?_
       try simp only [xap]
       refine xso 15 ?_ rfl ?_ (xso 16 ?_ rfl ?_ (xso 17 ?_ rfl ?_ ?_))
       iterate 3 (rotate_left; focus ((try simp only [xap]); intro w hSw; (try dsimp only at hSw); go_simp; first | done | with_reducible rfl))
       try simp only [xap]
       refine xso 18 ?_ rfl ?_ ?_
       rotate_left
       · intro w hSw; (try dsimp only at hSw); go_simp; first | done | with_reducible rfl
       try simp only [xap]
       refine xso 19 ?_ rfl ?_ ?_
       rotate_left
       · intro w hSw; (try dsimp only at hSw); go_simp; first | done | with_reducible rfl
       try simp only [xap]
       refine xso 20 ?_ rfl ?_ ?_
       rotate_left
       · intro w hSw; (try dsimp only at hSw); go_simp; first | done | with_reducible rfl
       try simp only [xap]
       refine xso 21 ?_ rfl ?_ ?_
       rotate_left
       · intro w hSw; (try dsimp only at hSw); go_simp; first | done | with_reducible rfl
       try simp only [xap]
       refine xso 22 ?_ rfl ?_ ?_
       rotate_left
       · intro w hSw; (try dsimp only at hSw); go_simp; first | done | with_reducible rfl
       try simp only [xap]
       refine xso 23 ?_ rfl ?_ ?_
       rotate_left
       · intro w hSw; (try dsimp only at hSw); go_simp; first | done | with_reducible rfl
       try simp only [xap]
       refine xtk 24 (v := undef) rfl (Or.inr ⟨by rfl, rfl⟩) ?_
       try simp only [xap]
       refine xtk 25 (v := undef) rfl (Or.inr ⟨by rfl, rfl⟩) ?_
       try simp only [xap]
       refine xtk 26 (v := undef) rfl (Or.inr ⟨by rfl, rfl⟩) ?_
       try simp only [xap]
       refine xtk 27 (v := undef) rfl (Or.inr ⟨by rfl, rfl⟩) ?_
       try simp only [xap]
       refine xtk 28 (v := undef) rfl (Or.inr ⟨by rfl, rfl⟩) ?_
       try simp only [xap]
       refine xtk 29 (v := undef) rfl (Or.inr ⟨by rfl, rfl⟩) ?_
       try simp only [xap]
       refine xtk 30 (v := undef) rfl (Or.inr ⟨by rfl, rfl⟩) ?_
       try simp only [xap]
       refine xso 31 ?_ rfl ?_ (xso 32 ?_ rfl ?_ ?_)
       iterate 2 (rotate_left; focus ((try simp only [xap]); intro w hSw; (try dsimp only at hSw); go_simp; first | done | with_reducible rfl))
       try simp only [xap]
       refine xdn ?_ _
       clear hHeld KS rA rg
       replace G := Hid.mk (G.out.trans d1)
       clear d1
       go_wp2_with fail
       exact ⟨⟨i + 1, by go_num, by omega, G⟩, by simp [intOf]; omega⟩
     · have hin : ¬ (i : Int) < (rr.slots.length : Int) := by omega
       have hge : (rr.slots.length : Int) ≤ (i : Int) := by omega
       have rA := Hid.mk (fun (W : World) (q : Gr wr W) => marked_ge slotM rr.slots i (by omega) (by rw [marked_len]; omega) ▸ (AR.out.gr (G.out.trans q)).elem (pre := []) slt_len i (by rw [marked_len]; omega) (i * 8) (by simp))
       have KS : Hid (∀ W, Gr wr W → W.rangeAt gs (i * 8) (PSlot.vals slotM) ∧ W.cell? ⟨w.heap.size + 1, 3, none⟩ = some (.slice sa rr.slots.length sc)) := Hid.mk (fun W q => ⟨rA.out W q, (BC.out.gr (G.out.trans q)).2.1 3⟩)
       go_upto_region 9 with fail
       have d1 : Gr wr wr.drew := (Gr.refl _).drew
       refine wp_region_held_drew (S := (fun W => W.rangeAt gs (i * 8) (PSlot.vals slotM) ∧ W.cell? ⟨w.heap.size + 1, 3, none⟩ = some (.slice sa rr.slots.length sc))) (by kernel_rfl) (KS.out _ d1) (fun hHeld => ?_)
       refine xso 0 ?_ rfl ?_ (xso 1 ?_ rfl ?_ (xso 2 ?_ rfl ?_ (xso 3 ?_ rfl ?_ (xso 4 ?_ rfl ?_ (xso 5 ?_ rfl ?_ ?_)))))
       iterate 6 (rotate_left; focus ((try simp only [xap]); intro w hSw; (try dsimp only at hSw); go_simp; first | done | with_reducible rfl))
       try simp only [xap]
       refine xtk 6 (v := undef) rfl (Or.inr ⟨by rfl, rfl⟩) ?_
       try simp only [xap]
       refine xtk 7 (v := undef) rfl (Or.inr ⟨by rfl, rfl⟩) ?_
       try simp only [xap]
       refine xtk 8 (v := undef) rfl (Or.inr ⟨by rfl, rfl⟩) ?_
       try simp only [xap]
       refine xtk 9 (v := undef) rfl (Or.inr ⟨by rfl, rfl⟩) ?_
       try simp only [xap]
       refine xtk 10 (v := undef) rfl (Or.inr ⟨by rfl, rfl⟩) ?_
       try simp only [xap]
       refine xtk 11 (v := undef) rfl (Or.inr ⟨by rfl, rfl⟩) ?_
       try simp only [xap]
       refine xtk 12 (v := undef) rfl (Or.inr ⟨by rfl, rfl⟩) ?_
       try simp only [xap]
       refine xtk 13 (v := undef) rfl (Or.inr ⟨by rfl, rfl⟩) ?_
       try simp only [xap]
       refine xtk 14 (v := undef) rfl (Or.inr ⟨by rfl, rfl⟩) ?_
       try simp only [xap]
       refine xtk 15 (v := undef) rfl (Or.inr ⟨by rfl, rfl⟩) ?_
       try simp only [xap]
       refine xso 16 ?_ rfl ?_ (xso 17 ?_ rfl ?_ ?_)
       iterate 2 (rotate_left; focus ((try simp only [xap]); intro w hSw; (try dsimp only at hSw); go_simp; first | done | with_reducible rfl))
       try simp only [xap]
       refine xso 18 ?_ rfl ?_ ?_
       rotate_left
       · intro w hSw; (try dsimp only at hSw); go_simp; first | done | with_reducible rfl
       try simp only [xap]
       refine xso 19 ?_ rfl ?_ ?_
       rotate_left
       · intro w hSw; (try dsimp only at hSw); go_simp; first | done | with_reducible rfl
       try simp only [xap]
       refine xso 20 ?_ rfl ?_ ?_
       rotate_left
       · intro w hSw; (try dsimp only at hSw); go_simp; first | done | with_reducible rfl
       try simp only [xap]
       refine xso 21 ?_ rfl ?_ ?_
       rotate_left
       · intro w hSw; (try dsimp only at hSw); go_simp; first | done | with_reducible rfl
       try simp only [xap]
       refine xso 22 ?_ rfl ?_ ?_
       rotate_left
       · intro w hSw; (try dsimp only at hSw); go_simp; first | done | with_reducible rfl
       try simp only [xap]
       refine xso 23 ?_ rfl ?_ ?_
       rotate_left
       · intro w hSw; (try dsimp only at hSw); go_simp; first | done | with_reducible rfl
       try simp only [xap]
       refine xso 24 ?_ rfl ?_ ?_
       rotate_left
       · intro w hSw; (try dsimp only at hSw); go_simp; first | done | with_reducible rfl
       try simp only [xap]
       refine xso 25 ?_ rfl ?_ ?_
       rotate_left
       · intro w hSw; (try dsimp only at hSw); go_simp; first | done | with_reducible rfl
       try simp only [xap]
       refine xso 26 ?_ rfl ?_ ?_
       rotate_left
       · intro w hSw; (try dsimp only at hSw); go_simp; first | done | with_reducible rfl
       try simp only [xap]
       refine xtk 27 rfl (yieldsIf_load_mid (by rfl) _ _ rfl _ _ rfl _ _ (fun _ h => h.1) Tryz.underlying87 rfl (by kernel_rfl)) ?_
       try simp only [xap]
       refine xrd 28 rfl (fun K hK => ?_)
       go_simp
       go_wp2_with ((go_at_call 32; refine (hM.out _).mono ?_; rintro x wq ⟨rfl, q9⟩; have d1 : Gr wr wq := Gr.trans (by (repeat (first | with_reducible assumption | with_reducible exact Gr.refl _ | with_reducible refine Gr.drew ?_ | with_reducible refine Gr.alloc ?_ _))) q9; clear q9))
       refine hK.out _ _ (KS.out _ d1) (fun hHeld => ?_)
       clear hK K
       try simp only [xap]
       refine xso 29 ?_ rfl ?_ ?_
       rotate_left
       · intro w hSw; (try dsimp only at hSw); go_simp; first | done | with_reducible rfl
       try simp only [xap]
       refine xso 30 ?_ rfl ?_ ?_
       rotate_left
       · intro w hSw; (try dsimp only at hSw); go_simp; first | done | with_reducible rfl
       try simp only [xap]
       refine xso 31 ?_ rfl ?_ (xso 32 ?_ rfl ?_ ?_)
       iterate 2 (rotate_left; focus ((try simp only [xap]); intro w hSw; (try dsimp only at hSw); go_simp; first | done | with_reducible rfl))
       try simp only [xap]
       refine xdn ?_ _
       clear hHeld KS rA
       replace G := Hid.mk (G.out.trans d1)
       clear d1
       go_wp2_with fail
       exact ⟨⟨i + 1, by go_num, by omega, G⟩, by simp [intOf]; omega⟩
   · have hi1 : ¬ (i : Int) < (rr.slots.length : Int) + 8 := by omega
     go_wp2_with fail
     go_ret
     exact ⟨rfl, G0.out.trans G.out⟩
theorem stillRegion_any (rr : PReg) (s : Sl) (sa : Option Addr) (sc B kk : Nat) (w : World) (hS : SlOk kk w rr.slots s) (hs : FIn 8 PSlot.vals B w sa rr.slots) (hB0 : B ≤ w.heap.size) (hbs : rr.slots.length ≤ 281474976710648) : Calls Tryz.prog 24 #[.agg #[.int .u64 rr.b, .int .u64 rr.n, .string (str rr.data), .slice s.a s.l s.c], .agg #[.int .u64 rr.b, .int .u64 rr.n, .string (str rr.data), .slice sa rr.slots.length sc]] w fun x w' => x = .returned (.bool true) ∧ Gr w w' := by
 rcases hS with ⟨h, rfl⟩ | ⟨h, gs, rfl, _, hA⟩
 · exact stillRegion_nil rr sa sc w h
 · exact stillRegion_some rr sa sc B gs w hA hs hB0 hbs h
end Q
end Go.Proofs.YtdlcphinjnnhcaaGreatDoor
