import Derived.Test.YthfphgjjieddjaaGreatP46
import Derived.Test.YthfphgjjieddjaaGreatP29
import Derived.Test.YthfphgjjieddjaaGreatP48
import Derived.Test.YthfphgjjieddjaaGreatP42
import Derived.Test.YthfphgjjieddjaaGreatP30
import Derived.Test.YthfphgjjieddjaaGreatP37
import Derived.Test.YthfphgjjieddjaaGreatZBck
import Derived.OwnWalk
import Derived.Test.YthfphgjjieddjaaGreatZDMb
namespace Go.Proofs.YthfphgjjieddjaaGreat
set_option maxRecDepth 100000
set_option maxHeartbeats 40000000
namespace Z
open Go.RowKit
open T (Sep Ob Kp Mf FlIn boxOb)

theorem dstep_guards (B : Nat) (W0 : World) (b : Nat) (c : Dc) (P : Pr) (s : Fm) (l : List Ob) (h : DIo B W0 b c P s s.g s.p l) (he : s.e = 0) (hg : s.g < P.code.length) (hpg : DPg B W0 c P) (i : Fi) (s1 : Fm) (hp : s.p < P.code[s.g].length) (hi : P.code[s.g][s.p] = i) (hvf : s1.e = 0 → s1.v = 0 ∧ s1.f = 0) (hop : 70 ≤ i.op) (hcon : ∀ V l', DIo B V b c P s s.g s.p l' → DPg B V c P → Calls Tryz.prog 56 #[.pointer (some ⟨b, 0, none⟩), .agg #[.int .u8 i.op, .int .i64 i.a, .int .i64 i.b, .int .i64 i.c, .int .u64 i.i]] V fun x w' => x = .returned (.tuple #[]) ∧ DAft B w' b c P s1 l' ∧ Below B V w') :
   Calls Tryz.prog 40 #[.pointer (some ⟨b, 0, none⟩)] W0 fun x w' => x = .returned (s1).outc ∧ DIo B w' b c P (s1) (s1).g (s1).p l ∧ Below B W0 w' := by
 replace hcon := Hz.mk hcon
 replace hvf := Hz.mk hvf
 have hp0 := hp
 replace hi := Hz.mk hi
 have hpg0 := Hz.mk hpg
 have hgi : (s.g : Int) < (P.code.length : Int) := by omega
 obtain ⟨cb, co, ra, rc, hca, hcb, hco⟩ := hpg.code s.g hg
 replace hco := Hz.mk hco
 replace hca := Hz.mk hca
 obtain ⟨N, hN⟩ : ∃ N, P.code[s.g].length = N := ⟨_, rfl⟩
 rw [hN] at hco hp
 have h2 := Hz.mk (h.new (List.toArray [Value.int .i64 0, .int .u64 0, .int .i64 0, .int .i64 0, .int .i64 0]) 51)
 clear h
 go_enter Tryz.func40, Tryz.ntmps40
 go_upto_region 1 with fail
 refine wp_world (fun W => DIo B W b c P s s.g s.p (boxOb W0.heap.size (List.toArray [Value.int .i64 0, .int .u64 0, .int .i64 0, .int .i64 0, .int .i64 0]) :: l) ∧ Below B W0 W) h2.out ?_
 rintro W ⟨h, hB⟩
 replace h := Hz.mk h
 replace hB := Hz.mk hB
 clear h2
 generalize W0.heap.size = kr at *
 have c27 : W.cell? ⟨b, 27, none⟩ = some (.int .i64 s.e) := h.out.row5 0 _ rfl
 have gd : Gr W W.drew := (Gr.refl W).drew
 go_upto_region 3 with fail
 clear c27
 replace hB := Hz.mk (hB.out.trans (gd.below.mono h.out.le))
 replace h := Hz.mk (h.out.gr gd.below)
 obtain ⟨c0, c4, c5⟩ := h.out.codes cb co hca.out
 obtain ⟨cw, hei⟩ := hco.out _ hB.out
 replace hei := Hz.mk hei
 clear gd
 refine wp_region_held_drew (S := (fun X => X.cell? ⟨b, 0, none⟩ = some (.slice (some ⟨cb, co, none⟩) P.code.length c.cc) ∧ X.cell? ⟨b, 4, none⟩ = some (.int .i64 s.g) ∧ X.cell? ⟨cb, co + s.g, none⟩ = some (.slice ra N rc))) (by kernel_rfl) (⟨c0, c4, cw⟩) (fun hHeld => ?_)
 refine xso 0 ?_ rfl ?_ (xso 1 ?_ rfl ?_ (xso 2 ?_ rfl ?_ (xso 3 ?_ rfl ?_ (xso 4 ?_ rfl ?_ (xso 5 ?_ rfl ?_ (xso 6 ?_ rfl ?_ (xso 7 ?_ rfl ?_ (xso 8 ?_ rfl ?_ (xso 9 ?_ rfl ?_ (xso 10 ?_ rfl ?_ (xso 11 ?_ rfl ?_ ?_)))))))))))
 iterate 12 (rotate_left; focus ((try simp only [xap]); intro w hSw; (try dsimp only at hSw); go_simp; first | done | with_reducible rfl))
 try simp only [xap]
 refine xdn ?_ _
 clear hHeld c0 c4 cw
 generalize W.drew = V at *
 have hpi : (s.p : Int) < (N : Int) := by omega
 have hpn : ¬ (N : Int) ≤ (s.p : Int) := by omega
 obtain ⟨rb, ro, era, hrb, hcel⟩ := hei.out s.p hp0
 subst era
 have hrow : Hz (V.rangeAt rb (ro + s.p * 5) (Fi.vals i)) := Hz.mk (fun j v q => hcel j v (by rw [hi.out]; exact q))
 clear hcel hei
 go_upto_region 7 with fail
 refine wp_region_lit ?_
 iterate 6 (refine wpList_plain rfl (fun K hK => ?_); go_simp; with_reducible refine hK _ _ ?_; clear hK K; (try simp only [xap]))
 refine wpList_plain rfl (fun K hK => ?_)
 refine wp_load_mid _ _ rfl _ (ro + s.p * 5) rfl (Fi.vals i) _ hrow.out Tryz.underlying42 rfl (by kernel_rfl) (hK _ _ ?_)
 clear hK K
 try simp only [xap]
 refine wpList_plain rfl (fun K hK => ?_)
 go_simp
 with_reducible refine hK _ _ ?_
 clear hK K
 try simp only [xap]
 have hA7 : At (V.alloc (.cells (List.toArray [Value.int .u8 0, .int .i64 0, .int .i64 0, .int .i64 0, .int .u64 0]) 42)) V.heap.size (List.toArray [Value.int .u8 0, .int .i64 0, .int .i64 0, .int .i64 0, .int .u64 0]) := At.new V _ _
 have hth := Hz.mk (At.there hA7 0 5 (by decide))
 have hA8 := Hz.mk (At.setAll hA7 (Fi.vals i) rfl)
 have g8 := Hz.mk (Gr.setCells ((Gr.refl V).alloc (.cells (List.toArray [Value.int .u8 0, .int .i64 0, .int .i64 0, .int .i64 0, .int .u64 0]) 42)) V.heap.size (Nat.le_refl _) (Fi.vals i) 0)
 clear hA7
 refine wpList_plain rfl (fun K hK => ?_)
 refine wp_store_mid _ _ _ rfl _ _ (List.toArray (Fi.vals i)) rfl rfl hth.out (by kernel_rfl) (by simp [Fi.vals, Value.oneCell']) (hK _ _ ?_)
 clear hK K
 try simp only [Act.put]
 have hM := Hz.mk (h.out.add (boxOb V.heap.size (List.toArray (Fi.vals i))) hA8.out (fun k q => by have : k = V.heap.size := q; omega) g8.out.below)
 replace hB := Hz.mk (hB.out.trans (g8.out.below.mono h.out.le))
 clear h
 generalize World.setCells _ _ _ _ = V1 at *
 clear g8 hth c5
 generalize V.heap.size = ki at *
 have i0 : V1.cell? ⟨ki, 0, none⟩ = some (.int .u8 i.op) := hA8.out.2.1 0
 have i1 : V1.cell? ⟨ki, 1, none⟩ = some (.int .i64 i.a) := hA8.out.2.1 1
 have i2 : V1.cell? ⟨ki, 2, none⟩ = some (.int .i64 i.b) := hA8.out.2.1 2
 have i3 : V1.cell? ⟨ki, 3, none⟩ = some (.int .i64 i.c) := hA8.out.2.1 3
 have i4 : V1.cell? ⟨ki, 4, none⟩ = some (.int .u64 i.i) := hA8.out.2.1 4
 have hen := Hz.mk (hcon.out V1 _ hM.out (hpg0.out.below hB.out))
 have l20 : ¬ (i.op : Int) < 20 := by omega
 have l27 : ¬ (i.op : Int) < 27 := by omega
 have l60 : ¬ (i.op : Int) < 60 := by omega
 have l70 : ¬ (i.op : Int) < 70 := by omega
 have hrow8 : Hz (V1.rangeAt ki 0 (Fi.vals i)) := Hz.mk (fun j v q => by rw [Nat.zero_add]; exact (hA8.out.2.1 j).trans (by simpa using q))
 go_upto_region 9 with fail
 go_upto_region 11 with fail
 go_upto_region 13 with fail
 go_upto_region 15 with fail
 go_upto_region 8 with fail
 refine wp_region_lit ?_
 refine wpList_plain rfl (fun K hK => ?_)
 go_simp
 with_reducible refine hK _ _ ?_
 clear hK K
 try simp only [xap]
 refine wpList_plain rfl (fun K hK => ?_)
 refine wp_load_mid _ _ rfl _ 0 rfl (Fi.vals i) _ hrow8.out Tryz.underlying42 rfl (by kernel_rfl) (hK _ _ ?_)
 clear hK K
 try simp only [xap]
 refine wpList_plain rfl (fun K hK => ?_)
 go_simp
 (refine hen.out.mono ?_; rintro r V9 ⟨rfl, ⟨og, op, h9, e9⟩, hB9⟩)
 with_reducible refine hK _ _ ?_
 clear hK K
 try simp only [xap]
 go_upto_region 17 with fail
 clear i0 i1 i2 i3 i4 hA8 hM
 replace hB := Hz.mk (hB.out.trans hB9)
 replace h := Hz.mk h9.drop
 clear hen hB9 h9
 have c27 : V9.cell? ⟨b, 27, none⟩ = some (.int .i64 s1.e) := h.out.row5 0 _ rfl
 by_cases hE : s1.e = 0
 · obtain ⟨v0, f0⟩ := hvf.out hE
   rw [hE] at c27
   go_upto_region 18 with fail
   have gd : Gr V9 V9.drew := (Gr.refl V9).drew
   replace hB := Hz.mk (hB.out.trans (gd.below.mono h.out.le))
   replace h := Hz.mk (h.out.gr gd.below)
   clear gd c27
   obtain ⟨h5, b5, t5⟩ := h.out.set5 hE v0 f0
   obtain ⟨d4, d5, _⟩ := h.out.hand
   obtain ⟨f4, f5, _⟩ := h5.hand
   have hE5 := Hz.mk hE
   replace h5 := Hz.mk h5
   replace t5 := Hz.mk t5
   clear hE v0 f0
   refine wp_region_held_drew (S := (fun X => X.cell? ⟨b, 4, none⟩ = some (.int .i64 s1.g) ∧ X.cell? ⟨b, 5, none⟩ = some (.int .i64 s1.p))) (by kernel_rfl) (⟨d4, d5⟩) (fun hHeld => ?_)
   generalize V9.drew = V10 at *
   refine xso 0 ?_ rfl ?_ (xso 1 ?_ rfl ?_ (xso 2 ?_ rfl ?_ (xso 3 ?_ rfl ?_ (xso 4 ?_ rfl ?_ (xso 5 ?_ rfl ?_ (xso 6 ?_ rfl ?_ (xso 7 ?_ rfl ?_ (xso 8 ?_ rfl ?_ (xso 9 ?_ rfl ?_ (xso 10 ?_ rfl ?_ (xso 11 ?_ rfl ?_ ?_)))))))))))
   iterate 12 (rotate_left; focus ((try simp only [xap]); intro w hSw; (try dsimp only at hSw); go_simp; first | done | with_reducible rfl))
   try simp only [xap]
   refine xrd 12 rfl (fun K hK => ?_)
   rw [if_pos (by rfl)]
   refine wp_store_mid _ _ _ rfl _ _ (List.toArray _) rfl rfl (t5.out) (by kernel_rfl) (by simp [Value.oneCell']) ?_
   refine hK.out _ _ (⟨f4, f5⟩) (fun hHeld => ?_)
   clear hK K
   try simp only [Act.put]
   refine xdn ?_ _
   clear hHeld d4 d5 f4 f5 h t5
   replace hB := Hz.mk (hB.out.trans b5)
   generalize World.setCells _ _ _ _ = V12 at *
   have h := h5
   clear h5 b5
   have hro := Hz.mk h.out.row5
   have hA9 : At V12 kr (List.toArray [Value.int .i64 0, .int .u64 0, .int .i64 0, .int .i64 0, .int .i64 0]) := h.out.there (boxOb kr (List.toArray [Value.int .i64 0, .int .u64 0, .int .i64 0, .int .i64 0, .int .i64 0])) (.head _)
   have hth := Hz.mk (At.there hA9 0 5 (by decide))
   have hA10 := Hz.mk (At.setAll (cs := [Value.int .i64 0, .int .u64 0, .int .i64 0, .int .i64 0, .int .i64 0]) hA9 [Value.int .i64 s1.e, .int .u64 s1.v, .int .i64 s1.f, .int .i64 s1.g, .int .i64 s1.p] rfl)
   have h10 := h.out.side (o' := boxOb kr (List.toArray [Value.int .i64 s1.e, .int .u64 s1.v, .int .i64 s1.f, .int .i64 s1.g, .int .i64 s1.p])) hA10.out (kp_setsZ V12 kr [Value.int .i64 s1.e, .int .u64 s1.v, .int .i64 s1.f, .int .i64 s1.g, .int .i64 s1.p] 0) (fun _ r => .inl r)
   replace hB := Hz.mk (hB.out.trans h10.2)
   replace h10 := Hz.mk h10.1
   clear hA9 h
   go_upto_region 19 with fail
   refine wp_region_lit ?_
   iterate 3 (refine wpList_plain rfl (fun K hK => ?_); go_simp; with_reducible refine hK _ _ ?_; clear hK K; (try simp only [xap]))
   refine wpList_plain rfl (fun K hK => ?_)
   refine wp_load_mid _ _ rfl _ 27 rfl [Value.int .i64 s1.e, .int .u64 s1.v, .int .i64 s1.f, .int .i64 s1.g, .int .i64 s1.p] _ hro.out Tryz.underlying51 rfl (by kernel_rfl) (hK _ _ ?_)
   clear hK K
   try simp only [xap]
   refine wpList_plain rfl (fun K hK => ?_)
   refine wp_store_mid _ _ _ rfl _ _ (List.toArray [Value.int .i64 s1.e, .int .u64 s1.v, .int .i64 s1.f, .int .i64 s1.g, .int .i64 s1.p]) rfl rfl hth.out (by kernel_rfl) (by simp [Value.oneCell']) (hK _ _ ?_)
   clear hK K
   try simp only [Act.put]
   generalize World.setCells _ _ _ _ = V11 at *
   have hrun := Hz.mk (run_loadVar_mid (P := Tryz.prog) V11 kr 0 51 [Value.int .i64 s1.e, .int .u64 s1.v, .int .i64 s1.f, .int .i64 s1.g, .int .i64 s1.p] _ (fun j v q => by rw [Nat.zero_add]; exact (hA10.out.2.1 j).trans (by simpa using q)) Tryz.underlying51 rfl (by kernel_rfl))
   go_wp2_with fail
   refine bodyPost_ret (v := s1.outc) ?_ rfl ⟨rfl, h10.out.drop, hB.out⟩
   exact results_rowZ Tryz.results40 _ _ rfl hrun.out
 · obtain ⟨rfl, rfl⟩ := e9 hE
   have hro := Hz.mk h.out.row5
   have hA9 : At V9 kr (List.toArray [Value.int .i64 0, .int .u64 0, .int .i64 0, .int .i64 0, .int .i64 0]) := h.out.there (boxOb kr (List.toArray [Value.int .i64 0, .int .u64 0, .int .i64 0, .int .i64 0, .int .i64 0])) (.head _)
   have hth := Hz.mk (At.there hA9 0 5 (by decide))
   have hA10 := Hz.mk (At.setAll (cs := [Value.int .i64 0, .int .u64 0, .int .i64 0, .int .i64 0, .int .i64 0]) hA9 [Value.int .i64 s1.e, .int .u64 s1.v, .int .i64 s1.f, .int .i64 s1.g, .int .i64 s1.p] rfl)
   have h10 := h.out.side (o' := boxOb kr (List.toArray [Value.int .i64 s1.e, .int .u64 s1.v, .int .i64 s1.f, .int .i64 s1.g, .int .i64 s1.p])) hA10.out (kp_setsZ V9 kr [Value.int .i64 s1.e, .int .u64 s1.v, .int .i64 s1.f, .int .i64 s1.g, .int .i64 s1.p] 0) (fun _ r => .inl r)
   replace hB := Hz.mk (hB.out.trans h10.2)
   replace h10 := Hz.mk h10.1
   clear hA9 h
   go_upto_region 19 with fail
   refine wp_region_lit ?_
   iterate 3 (refine wpList_plain rfl (fun K hK => ?_); go_simp; with_reducible refine hK _ _ ?_; clear hK K; (try simp only [xap]))
   refine wpList_plain rfl (fun K hK => ?_)
   refine wp_load_mid _ _ rfl _ 27 rfl [Value.int .i64 s1.e, .int .u64 s1.v, .int .i64 s1.f, .int .i64 s1.g, .int .i64 s1.p] _ hro.out Tryz.underlying51 rfl (by kernel_rfl) (hK _ _ ?_)
   clear hK K
   try simp only [xap]
   refine wpList_plain rfl (fun K hK => ?_)
   refine wp_store_mid _ _ _ rfl _ _ (List.toArray [Value.int .i64 s1.e, .int .u64 s1.v, .int .i64 s1.f, .int .i64 s1.g, .int .i64 s1.p]) rfl rfl hth.out (by kernel_rfl) (by simp [Value.oneCell']) (hK _ _ ?_)
   clear hK K
   try simp only [Act.put]
   generalize World.setCells _ _ _ _ = V11 at *
   have hrun := Hz.mk (run_loadVar_mid (P := Tryz.prog) V11 kr 0 51 [Value.int .i64 s1.e, .int .u64 s1.v, .int .i64 s1.f, .int .i64 s1.g, .int .i64 s1.p] _ (fun j v q => by rw [Nat.zero_add]; exact (hA10.out.2.1 j).trans (by simpa using q)) Tryz.underlying51 rfl (by kernel_rfl))
   go_wp2_with fail
   refine bodyPost_ret (v := s1.outc) ?_ rfl ⟨rfl, h10.out.drop, hB.out⟩
   exact results_rowZ Tryz.results40 _ _ rfl hrun.out
end Z
end Go.Proofs.YthfphgjjieddjaaGreat


namespace Go.Proofs.YthfphgjjieddjaaGreat
set_option maxRecDepth 100000
set_option maxHeartbeats 40000000
namespace Z
open Go.RowKit
open T (Sep Ob Kp Mf FlIn boxOb)

def DGo (B b : Nat) (c : Dc) (P : Pr) (s s' : Fm) : Prop := ∀ V l', DIo B V b c P s s.g s.p l' → DPg B V c P → Calls Tryz.prog 40 #[.pointer (some ⟨b, 0, none⟩)] V fun x w' => x = .returned s'.outc ∧ DIo B w' b c P s' s'.g s'.p l' ∧ Below B V w'
theorem drunA (B : Nat) (W0 : World) (b : Nat) (c : Dc) (P : Pr) (l : List Ob) (n m : Nat) (N : Int) (f : Nat → Fm) (h : DIo B W0 b c P (f 0) (f 0).g (f 0).p l) (hpg : DPg B W0 c P) (hm : m ≤ n) (_hn : n ≤ 100000) (h0 : ∀ k, k < m → (f k).e = 0) (hG : ∀ k, k < m → DGo B b c P (f k) (f (k + 1))) (hE : m = n ∨ (f m).e ≠ 0) (hN : N ≤ 100000) (hlt : ∀ k : Nat, (k : Int) < N ↔ k < n) (t : Fm) (ht : (if (f m).e = 0 then sp (f m) else f m) = t) :
   Calls Tryz.prog 22 #[.pointer (some ⟨b, 0, none⟩), .int .i64 N] W0 fun x w' => x = .returned t.outc ∧ DIo B w' b c P t t.g t.p l ∧ Below B W0 w' := by
 have h2 := Hz.mk (h.new (List.toArray [Value.int .i64 0, .int .u64 0, .int .i64 0, .int .i64 0, .int .i64 0]) 51)
 clear h
 replace h0 := Hz.mk h0
 replace hG := Hz.mk hG
 replace hE := Hz.mk hE
 replace hpg := Hz.mk hpg
 replace ht := Hz.mk ht
 have hNn : ¬ 100000 < N := by omega
 replace hlt := Hz.mk hlt
 go_enter Tryz.func22, Tryz.ntmps22
 go_upto_region 1 with fail
 refine wp_world (fun W => DIo B W b c P (f 0) (f 0).g (f 0).p (boxOb W0.heap.size (List.toArray [Value.int .i64 0, .int .u64 0, .int .i64 0, .int .i64 0, .int .i64 0]) :: l) ∧ Below B W0 W) h2.out ?_
 rintro W ⟨h, hB⟩
 replace h := Hz.mk h
 replace hB := Hz.mk hB
 clear h2
 generalize W0.heap.size = kr at *
 go_upto_region 4 with fail
 go_loopw [5] (fun x wr => ∃ k : Nat, x = .int .i64 k ∧ k ≤ m ∧ Hz (DIo B wr b c P (f k) (f k).g (f k).p (boxOb kr (List.toArray [Value.int .i64 0, .int .u64 0, .int .i64 0, .int .i64 0, .int .i64 0]) :: l)) ∧ Hz (Below B W0 wr)) (fun x _ => n - (intOf x).toNat)
 case atStart => exact ⟨0, rfl, Nat.zero_le _, h, hB⟩
 case round =>
   clear h hB
   obtain ⟨k, rfl, hk, h, hB⟩ := hrel
   have c27 : wr.cell? ⟨b, 27, none⟩ = some (.int .i64 (f k).e) := h.out.row5 0 _ rfl
   by_cases hkn : k < n
   · have hk1 : (k : Int) < N := (hlt.out k).2 hkn
     by_cases hkm : k < m
     · rw [h0.out k hkm] at c27
       have hg := Hz.mk (hG.out k hkm wr _ h.out (hpg.out.below hB.out))
       go_wp2_with fail
       refine hg.out.mono ?_
       rintro r V ⟨rfl, h2, hB2⟩
       replace h2 := Hz.mk h2
       replace hB := Hz.mk (hB.out.trans hB2)
       clear h hg hB2 c27
       go_wp2_with fail
       refine ⟨⟨k + 1, ?_, hkm, h2, hB⟩, ?_⟩
       · first | rfl | rw [next_wZ hkn (by omega)] | go_num
       · first | exact next_mZ hkn | (rw [next_wZ hkn (by omega)]; exact next_mZ hkn)
     · obtain rfl : k = m := by omega
       have e1 : (f k).e ≠ 0 := by
         rcases hE.out with q | q
         · omega
         · exact q
       replace ht := ht.out
       have e2 : ¬ (f k).e = 0 := e1
       have e3 : ((f k).e == 0) = false := by simpa using e2
       replace e1 := Hz.mk e1
       rw [if_neg e2] at ht
       obtain rfl := ht
       replace e2 := Hz.mk e2
       have hro := Hz.mk h.out.row5
       have hA9 : At wr kr (List.toArray [Value.int .i64 0, .int .u64 0, .int .i64 0, .int .i64 0, .int .i64 0]) := h.out.there (boxOb kr (List.toArray [Value.int .i64 0, .int .u64 0, .int .i64 0, .int .i64 0, .int .i64 0])) (.head _)
       have hth := Hz.mk (At.there hA9 0 5 (by decide))
       have hA10 := Hz.mk (At.setAll (cs := [Value.int .i64 0, .int .u64 0, .int .i64 0, .int .i64 0, .int .i64 0]) hA9 [Value.int .i64 (f k).e, .int .u64 (f k).v, .int .i64 (f k).f, .int .i64 (f k).g, .int .i64 (f k).p] rfl)
       have h10 := h.out.side (o' := boxOb kr (List.toArray [Value.int .i64 (f k).e, .int .u64 (f k).v, .int .i64 (f k).f, .int .i64 (f k).g, .int .i64 (f k).p])) hA10.out (kp_setsZ wr kr [Value.int .i64 (f k).e, .int .u64 (f k).v, .int .i64 (f k).f, .int .i64 (f k).g, .int .i64 (f k).p] 0) (fun _ r => .inl r)
       replace hB := Hz.mk (hB.out.trans h10.2)
       replace h10 := Hz.mk h10.1
       clear hA9 h
       go_upto_region 9 with fail
       refine wp_region_lit ?_
       iterate 3 (refine wpList_plain rfl (fun K hK => ?_); go_simp; with_reducible refine hK _ _ ?_; clear hK K; (try simp only [xap]))
       refine wpList_plain rfl (fun K hK => ?_)
       refine wp_load_mid _ _ rfl _ 27 rfl [Value.int .i64 (f k).e, .int .u64 (f k).v, .int .i64 (f k).f, .int .i64 (f k).g, .int .i64 (f k).p] _ hro.out Tryz.underlying51 rfl (by kernel_rfl) (hK _ _ ?_)
       clear hK K
       try simp only [xap]
       refine wpList_plain rfl (fun K hK => ?_)
       refine wp_store_mid _ _ _ rfl _ _ (List.toArray [Value.int .i64 (f k).e, .int .u64 (f k).v, .int .i64 (f k).f, .int .i64 (f k).g, .int .i64 (f k).p]) rfl rfl hth.out (by kernel_rfl) (by simp [Value.oneCell']) (hK _ _ ?_)
       clear hK K
       try simp only [Act.put]
       generalize World.setCells _ _ _ _ = V11 at *
       have hrun := Hz.mk (run_loadVar_mid (P := Tryz.prog) V11 kr 0 51 [Value.int .i64 (f k).e, .int .u64 (f k).v, .int .i64 (f k).f, .int .i64 (f k).g, .int .i64 (f k).p] _ (fun j v q => by rw [Nat.zero_add]; exact (hA10.out.2.1 j).trans (by simpa using q)) Tryz.underlying51 rfl (by kernel_rfl))
       go_wp2_with fail
       refine bodyPost_ret (v := (f k).outc) ?_ rfl ⟨rfl, h10.out.drop, hB.out⟩
       exact results_rowZ Tryz.results22 _ _ rfl hrun.out
   · have hk1 : ¬ (k : Int) < N := fun q => hkn ((hlt.out k).1 q)
     obtain rfl : k = m := by omega
     by_cases e1 : (f k).e = 0
     · skip
       have e2 : (f k).e = 0 := e1
       rw [e2] at c27
       replace ht := ht.out
       rw [if_pos e2] at ht
       have hen := Hz.mk (h.out.onBox (s' := sp (f k)) (og' := (f k).g) (op' := (f k).p) ⟨rfl, rfl, rfl, rfl, rfl⟩ (fun q hb => dend_any b _ 4 0 0 wr hb))
       replace e1 := Hz.mk e1
       replace e2 := Hz.mk e2
       go_upto_region 9 with (refine hen.out.mono ?_; rintro r V9 ⟨rfl, h9, hB9⟩)
       replace hB := Hz.mk (hB.out.trans hB9)
       replace h := Hz.mk h9
       clear hen hB9 h9 c27
       obtain ⟨t9, et⟩ : ∃ t9, t9 = sp (f k) := ⟨_, rfl⟩
       rw [← et] at ht
       obtain rfl := ht
       replace h : Hz (DIo B V9 b c P t9 t9.g t9.p (boxOb kr (List.toArray [Value.int .i64 0, .int .u64 0, .int .i64 0, .int .i64 0, .int .i64 0]) :: l)) := Hz.mk (by rw [et]; exact h.out)
       replace et := Hz.mk et
       have hro := Hz.mk h.out.row5
       have hA9 : At V9 kr (List.toArray [Value.int .i64 0, .int .u64 0, .int .i64 0, .int .i64 0, .int .i64 0]) := h.out.there (boxOb kr (List.toArray [Value.int .i64 0, .int .u64 0, .int .i64 0, .int .i64 0, .int .i64 0])) (.head _)
       have hth := Hz.mk (At.there hA9 0 5 (by decide))
       have hA10 := Hz.mk (At.setAll (cs := [Value.int .i64 0, .int .u64 0, .int .i64 0, .int .i64 0, .int .i64 0]) hA9 [Value.int .i64 t9.e, .int .u64 t9.v, .int .i64 t9.f, .int .i64 t9.g, .int .i64 t9.p] rfl)
       have h10 := h.out.side (o' := boxOb kr (List.toArray [Value.int .i64 t9.e, .int .u64 t9.v, .int .i64 t9.f, .int .i64 t9.g, .int .i64 t9.p])) hA10.out (kp_setsZ V9 kr [Value.int .i64 t9.e, .int .u64 t9.v, .int .i64 t9.f, .int .i64 t9.g, .int .i64 t9.p] 0) (fun _ r => .inl r)
       replace hB := Hz.mk (hB.out.trans h10.2)
       replace h10 := Hz.mk h10.1
       clear hA9 h
       go_upto_region 9 with fail
       refine wp_region_lit ?_
       iterate 3 (refine wpList_plain rfl (fun K hK => ?_); go_simp; with_reducible refine hK _ _ ?_; clear hK K; (try simp only [xap]))
       refine wpList_plain rfl (fun K hK => ?_)
       refine wp_load_mid _ _ rfl _ 27 rfl [Value.int .i64 t9.e, .int .u64 t9.v, .int .i64 t9.f, .int .i64 t9.g, .int .i64 t9.p] _ hro.out Tryz.underlying51 rfl (by kernel_rfl) (hK _ _ ?_)
       clear hK K
       try simp only [xap]
       refine wpList_plain rfl (fun K hK => ?_)
       refine wp_store_mid _ _ _ rfl _ _ (List.toArray [Value.int .i64 t9.e, .int .u64 t9.v, .int .i64 t9.f, .int .i64 t9.g, .int .i64 t9.p]) rfl rfl hth.out (by kernel_rfl) (by simp [Value.oneCell']) (hK _ _ ?_)
       clear hK K
       try simp only [Act.put]
       generalize World.setCells _ _ _ _ = V11 at *
       have hrun := Hz.mk (run_loadVar_mid (P := Tryz.prog) V11 kr 0 51 [Value.int .i64 t9.e, .int .u64 t9.v, .int .i64 t9.f, .int .i64 t9.g, .int .i64 t9.p] _ (fun j v q => by rw [Nat.zero_add]; exact (hA10.out.2.1 j).trans (by simpa using q)) Tryz.underlying51 rfl (by kernel_rfl))
       go_wp2_with fail
       refine bodyPost_ret (v := t9.outc) ?_ rfl ⟨rfl, h10.out.drop, hB.out⟩
       exact results_rowZ Tryz.results22 _ _ rfl hrun.out
     · skip
       replace ht := ht.out
       have e2 : ¬ (f k).e = 0 := e1
       have e3 : ((f k).e == 0) = false := by simpa using e2
       replace e1 := Hz.mk e1
       rw [if_neg e2] at ht
       obtain rfl := ht
       replace e2 := Hz.mk e2
       have hro := Hz.mk h.out.row5
       have hA9 : At wr kr (List.toArray [Value.int .i64 0, .int .u64 0, .int .i64 0, .int .i64 0, .int .i64 0]) := h.out.there (boxOb kr (List.toArray [Value.int .i64 0, .int .u64 0, .int .i64 0, .int .i64 0, .int .i64 0])) (.head _)
       have hth := Hz.mk (At.there hA9 0 5 (by decide))
       have hA10 := Hz.mk (At.setAll (cs := [Value.int .i64 0, .int .u64 0, .int .i64 0, .int .i64 0, .int .i64 0]) hA9 [Value.int .i64 (f k).e, .int .u64 (f k).v, .int .i64 (f k).f, .int .i64 (f k).g, .int .i64 (f k).p] rfl)
       have h10 := h.out.side (o' := boxOb kr (List.toArray [Value.int .i64 (f k).e, .int .u64 (f k).v, .int .i64 (f k).f, .int .i64 (f k).g, .int .i64 (f k).p])) hA10.out (kp_setsZ wr kr [Value.int .i64 (f k).e, .int .u64 (f k).v, .int .i64 (f k).f, .int .i64 (f k).g, .int .i64 (f k).p] 0) (fun _ r => .inl r)
       replace hB := Hz.mk (hB.out.trans h10.2)
       replace h10 := Hz.mk h10.1
       clear hA9 h
       go_upto_region 9 with fail
       refine wp_region_lit ?_
       iterate 3 (refine wpList_plain rfl (fun K hK => ?_); go_simp; with_reducible refine hK _ _ ?_; clear hK K; (try simp only [xap]))
       refine wpList_plain rfl (fun K hK => ?_)
       refine wp_load_mid _ _ rfl _ 27 rfl [Value.int .i64 (f k).e, .int .u64 (f k).v, .int .i64 (f k).f, .int .i64 (f k).g, .int .i64 (f k).p] _ hro.out Tryz.underlying51 rfl (by kernel_rfl) (hK _ _ ?_)
       clear hK K
       try simp only [xap]
       refine wpList_plain rfl (fun K hK => ?_)
       refine wp_store_mid _ _ _ rfl _ _ (List.toArray [Value.int .i64 (f k).e, .int .u64 (f k).v, .int .i64 (f k).f, .int .i64 (f k).g, .int .i64 (f k).p]) rfl rfl hth.out (by kernel_rfl) (by simp [Value.oneCell']) (hK _ _ ?_)
       clear hK K
       try simp only [Act.put]
       generalize World.setCells _ _ _ _ = V11 at *
       have hrun := Hz.mk (run_loadVar_mid (P := Tryz.prog) V11 kr 0 51 [Value.int .i64 (f k).e, .int .u64 (f k).v, .int .i64 (f k).f, .int .i64 (f k).g, .int .i64 (f k).p] _ (fun j v q => by rw [Nat.zero_add]; exact (hA10.out.2.1 j).trans (by simpa using q)) Tryz.underlying51 rfl (by kernel_rfl))
       go_wp2_with fail
       refine bodyPost_ret (v := (f k).outc) ?_ rfl ⟨rfl, h10.out.drop, hB.out⟩
       exact results_rowZ Tryz.results22 _ _ rfl hrun.out
theorem drunB (B : Nat) (W0 : World) (b : Nat) (c : Dc) (P : Pr) (l : List Ob) (n m : Nat) (N : Int) (f : Nat → Fm) (h : DIo B W0 b c P (f 0) (f 0).g (f 0).p l) (hpg : DPg B W0 c P) (hm : m ≤ n) (_hn : n ≤ 100000) (h0 : ∀ k, k < m → (f k).e = 0) (hG : ∀ k, k < m → DGo B b c P (f k) (f (k + 1))) (hE : m = n ∨ (f m).e ≠ 0) (hN : 100000 < N) (hn1 : n = 100000) (t : Fm) (ht : (if (f m).e = 0 then sp (f m) else f m) = t) :
   Calls Tryz.prog 22 #[.pointer (some ⟨b, 0, none⟩), .int .i64 N] W0 fun x w' => x = .returned t.outc ∧ DIo B w' b c P t t.g t.p l ∧ Below B W0 w' := by
 have h2 := Hz.mk (h.new (List.toArray [Value.int .i64 0, .int .u64 0, .int .i64 0, .int .i64 0, .int .i64 0]) 51)
 clear h
 replace h0 := Hz.mk h0
 replace hG := Hz.mk hG
 replace hE := Hz.mk hE
 replace hpg := Hz.mk hpg
 replace ht := Hz.mk ht
 skip
 go_enter Tryz.func22, Tryz.ntmps22
 go_upto_region 1 with fail
 refine wp_world (fun W => DIo B W b c P (f 0) (f 0).g (f 0).p (boxOb W0.heap.size (List.toArray [Value.int .i64 0, .int .u64 0, .int .i64 0, .int .i64 0, .int .i64 0]) :: l) ∧ Below B W0 W) h2.out ?_
 rintro W ⟨h, hB⟩
 replace h := Hz.mk h
 replace hB := Hz.mk hB
 clear h2
 generalize W0.heap.size = kr at *
 go_upto_region 4 with fail
 go_loopw [5] (fun x wr => ∃ k : Nat, x = .int .i64 k ∧ k ≤ m ∧ Hz (DIo B wr b c P (f k) (f k).g (f k).p (boxOb kr (List.toArray [Value.int .i64 0, .int .u64 0, .int .i64 0, .int .i64 0, .int .i64 0]) :: l)) ∧ Hz (Below B W0 wr)) (fun x _ => n - (intOf x).toNat)
 case atStart => exact ⟨0, rfl, Nat.zero_le _, h, hB⟩
 case round =>
   clear h hB
   obtain ⟨k, rfl, hk, h, hB⟩ := hrel
   have c27 : wr.cell? ⟨b, 27, none⟩ = some (.int .i64 (f k).e) := h.out.row5 0 _ rfl
   by_cases hkn : k < n
   · have hk1 : (k : Int) < 100000 := by omega
     by_cases hkm : k < m
     · rw [h0.out k hkm] at c27
       have hg := Hz.mk (hG.out k hkm wr _ h.out (hpg.out.below hB.out))
       go_wp2_with fail
       refine hg.out.mono ?_
       rintro r V ⟨rfl, h2, hB2⟩
       replace h2 := Hz.mk h2
       replace hB := Hz.mk (hB.out.trans hB2)
       clear h hg hB2 c27
       go_wp2_with fail
       refine ⟨⟨k + 1, ?_, hkm, h2, hB⟩, ?_⟩
       · first | rfl | rw [next_wZ hkn (by omega)] | go_num
       · first | exact next_mZ hkn | (rw [next_wZ hkn (by omega)]; exact next_mZ hkn)
     · obtain rfl : k = m := by omega
       have e1 : (f k).e ≠ 0 := by
         rcases hE.out with q | q
         · omega
         · exact q
       replace ht := ht.out
       have e2 : ¬ (f k).e = 0 := e1
       have e3 : ((f k).e == 0) = false := by simpa using e2
       replace e1 := Hz.mk e1
       rw [if_neg e2] at ht
       obtain rfl := ht
       replace e2 := Hz.mk e2
       have hro := Hz.mk h.out.row5
       have hA9 : At wr kr (List.toArray [Value.int .i64 0, .int .u64 0, .int .i64 0, .int .i64 0, .int .i64 0]) := h.out.there (boxOb kr (List.toArray [Value.int .i64 0, .int .u64 0, .int .i64 0, .int .i64 0, .int .i64 0])) (.head _)
       have hth := Hz.mk (At.there hA9 0 5 (by decide))
       have hA10 := Hz.mk (At.setAll (cs := [Value.int .i64 0, .int .u64 0, .int .i64 0, .int .i64 0, .int .i64 0]) hA9 [Value.int .i64 (f k).e, .int .u64 (f k).v, .int .i64 (f k).f, .int .i64 (f k).g, .int .i64 (f k).p] rfl)
       have h10 := h.out.side (o' := boxOb kr (List.toArray [Value.int .i64 (f k).e, .int .u64 (f k).v, .int .i64 (f k).f, .int .i64 (f k).g, .int .i64 (f k).p])) hA10.out (kp_setsZ wr kr [Value.int .i64 (f k).e, .int .u64 (f k).v, .int .i64 (f k).f, .int .i64 (f k).g, .int .i64 (f k).p] 0) (fun _ r => .inl r)
       replace hB := Hz.mk (hB.out.trans h10.2)
       replace h10 := Hz.mk h10.1
       clear hA9 h
       go_upto_region 9 with fail
       refine wp_region_lit ?_
       iterate 3 (refine wpList_plain rfl (fun K hK => ?_); go_simp; with_reducible refine hK _ _ ?_; clear hK K; (try simp only [xap]))
       refine wpList_plain rfl (fun K hK => ?_)
       refine wp_load_mid _ _ rfl _ 27 rfl [Value.int .i64 (f k).e, .int .u64 (f k).v, .int .i64 (f k).f, .int .i64 (f k).g, .int .i64 (f k).p] _ hro.out Tryz.underlying51 rfl (by kernel_rfl) (hK _ _ ?_)
       clear hK K
       try simp only [xap]
       refine wpList_plain rfl (fun K hK => ?_)
       refine wp_store_mid _ _ _ rfl _ _ (List.toArray [Value.int .i64 (f k).e, .int .u64 (f k).v, .int .i64 (f k).f, .int .i64 (f k).g, .int .i64 (f k).p]) rfl rfl hth.out (by kernel_rfl) (by simp [Value.oneCell']) (hK _ _ ?_)
       clear hK K
       try simp only [Act.put]
       generalize World.setCells _ _ _ _ = V11 at *
       have hrun := Hz.mk (run_loadVar_mid (P := Tryz.prog) V11 kr 0 51 [Value.int .i64 (f k).e, .int .u64 (f k).v, .int .i64 (f k).f, .int .i64 (f k).g, .int .i64 (f k).p] _ (fun j v q => by rw [Nat.zero_add]; exact (hA10.out.2.1 j).trans (by simpa using q)) Tryz.underlying51 rfl (by kernel_rfl))
       go_wp2_with fail
       refine bodyPost_ret (v := (f k).outc) ?_ rfl ⟨rfl, h10.out.drop, hB.out⟩
       exact results_rowZ Tryz.results22 _ _ rfl hrun.out
   · have hk1 : ¬ (k : Int) < 100000 := by omega
     obtain rfl : k = m := by omega
     by_cases e1 : (f k).e = 0
     · skip
       have e2 : (f k).e = 0 := e1
       rw [e2] at c27
       replace ht := ht.out
       rw [if_pos e2] at ht
       have hen := Hz.mk (h.out.onBox (s' := sp (f k)) (og' := (f k).g) (op' := (f k).p) ⟨rfl, rfl, rfl, rfl, rfl⟩ (fun q hb => dend_any b _ 4 0 0 wr hb))
       replace e1 := Hz.mk e1
       replace e2 := Hz.mk e2
       go_upto_region 9 with (refine hen.out.mono ?_; rintro r V9 ⟨rfl, h9, hB9⟩)
       replace hB := Hz.mk (hB.out.trans hB9)
       replace h := Hz.mk h9
       clear hen hB9 h9 c27
       obtain ⟨t9, et⟩ : ∃ t9, t9 = sp (f k) := ⟨_, rfl⟩
       rw [← et] at ht
       obtain rfl := ht
       replace h : Hz (DIo B V9 b c P t9 t9.g t9.p (boxOb kr (List.toArray [Value.int .i64 0, .int .u64 0, .int .i64 0, .int .i64 0, .int .i64 0]) :: l)) := Hz.mk (by rw [et]; exact h.out)
       replace et := Hz.mk et
       have hro := Hz.mk h.out.row5
       have hA9 : At V9 kr (List.toArray [Value.int .i64 0, .int .u64 0, .int .i64 0, .int .i64 0, .int .i64 0]) := h.out.there (boxOb kr (List.toArray [Value.int .i64 0, .int .u64 0, .int .i64 0, .int .i64 0, .int .i64 0])) (.head _)
       have hth := Hz.mk (At.there hA9 0 5 (by decide))
       have hA10 := Hz.mk (At.setAll (cs := [Value.int .i64 0, .int .u64 0, .int .i64 0, .int .i64 0, .int .i64 0]) hA9 [Value.int .i64 t9.e, .int .u64 t9.v, .int .i64 t9.f, .int .i64 t9.g, .int .i64 t9.p] rfl)
       have h10 := h.out.side (o' := boxOb kr (List.toArray [Value.int .i64 t9.e, .int .u64 t9.v, .int .i64 t9.f, .int .i64 t9.g, .int .i64 t9.p])) hA10.out (kp_setsZ V9 kr [Value.int .i64 t9.e, .int .u64 t9.v, .int .i64 t9.f, .int .i64 t9.g, .int .i64 t9.p] 0) (fun _ r => .inl r)
       replace hB := Hz.mk (hB.out.trans h10.2)
       replace h10 := Hz.mk h10.1
       clear hA9 h
       go_upto_region 9 with fail
       refine wp_region_lit ?_
       iterate 3 (refine wpList_plain rfl (fun K hK => ?_); go_simp; with_reducible refine hK _ _ ?_; clear hK K; (try simp only [xap]))
       refine wpList_plain rfl (fun K hK => ?_)
       refine wp_load_mid _ _ rfl _ 27 rfl [Value.int .i64 t9.e, .int .u64 t9.v, .int .i64 t9.f, .int .i64 t9.g, .int .i64 t9.p] _ hro.out Tryz.underlying51 rfl (by kernel_rfl) (hK _ _ ?_)
       clear hK K
       try simp only [xap]
       refine wpList_plain rfl (fun K hK => ?_)
       refine wp_store_mid _ _ _ rfl _ _ (List.toArray [Value.int .i64 t9.e, .int .u64 t9.v, .int .i64 t9.f, .int .i64 t9.g, .int .i64 t9.p]) rfl rfl hth.out (by kernel_rfl) (by simp [Value.oneCell']) (hK _ _ ?_)
       clear hK K
       try simp only [Act.put]
       generalize World.setCells _ _ _ _ = V11 at *
       have hrun := Hz.mk (run_loadVar_mid (P := Tryz.prog) V11 kr 0 51 [Value.int .i64 t9.e, .int .u64 t9.v, .int .i64 t9.f, .int .i64 t9.g, .int .i64 t9.p] _ (fun j v q => by rw [Nat.zero_add]; exact (hA10.out.2.1 j).trans (by simpa using q)) Tryz.underlying51 rfl (by kernel_rfl))
       go_wp2_with fail
       refine bodyPost_ret (v := t9.outc) ?_ rfl ⟨rfl, h10.out.drop, hB.out⟩
       exact results_rowZ Tryz.results22 _ _ rfl hrun.out
     · skip
       replace ht := ht.out
       have e2 : ¬ (f k).e = 0 := e1
       have e3 : ((f k).e == 0) = false := by simpa using e2
       replace e1 := Hz.mk e1
       rw [if_neg e2] at ht
       obtain rfl := ht
       replace e2 := Hz.mk e2
       have hro := Hz.mk h.out.row5
       have hA9 : At wr kr (List.toArray [Value.int .i64 0, .int .u64 0, .int .i64 0, .int .i64 0, .int .i64 0]) := h.out.there (boxOb kr (List.toArray [Value.int .i64 0, .int .u64 0, .int .i64 0, .int .i64 0, .int .i64 0])) (.head _)
       have hth := Hz.mk (At.there hA9 0 5 (by decide))
       have hA10 := Hz.mk (At.setAll (cs := [Value.int .i64 0, .int .u64 0, .int .i64 0, .int .i64 0, .int .i64 0]) hA9 [Value.int .i64 (f k).e, .int .u64 (f k).v, .int .i64 (f k).f, .int .i64 (f k).g, .int .i64 (f k).p] rfl)
       have h10 := h.out.side (o' := boxOb kr (List.toArray [Value.int .i64 (f k).e, .int .u64 (f k).v, .int .i64 (f k).f, .int .i64 (f k).g, .int .i64 (f k).p])) hA10.out (kp_setsZ wr kr [Value.int .i64 (f k).e, .int .u64 (f k).v, .int .i64 (f k).f, .int .i64 (f k).g, .int .i64 (f k).p] 0) (fun _ r => .inl r)
       replace hB := Hz.mk (hB.out.trans h10.2)
       replace h10 := Hz.mk h10.1
       clear hA9 h
       go_upto_region 9 with fail
       refine wp_region_lit ?_
       iterate 3 (refine wpList_plain rfl (fun K hK => ?_); go_simp; with_reducible refine hK _ _ ?_; clear hK K; (try simp only [xap]))
       refine wpList_plain rfl (fun K hK => ?_)
       refine wp_load_mid _ _ rfl _ 27 rfl [Value.int .i64 (f k).e, .int .u64 (f k).v, .int .i64 (f k).f, .int .i64 (f k).g, .int .i64 (f k).p] _ hro.out Tryz.underlying51 rfl (by kernel_rfl) (hK _ _ ?_)
       clear hK K
       try simp only [xap]
       refine wpList_plain rfl (fun K hK => ?_)
       refine wp_store_mid _ _ _ rfl _ _ (List.toArray [Value.int .i64 (f k).e, .int .u64 (f k).v, .int .i64 (f k).f, .int .i64 (f k).g, .int .i64 (f k).p]) rfl rfl hth.out (by kernel_rfl) (by simp [Value.oneCell']) (hK _ _ ?_)
       clear hK K
       try simp only [Act.put]
       generalize World.setCells _ _ _ _ = V11 at *
       have hrun := Hz.mk (run_loadVar_mid (P := Tryz.prog) V11 kr 0 51 [Value.int .i64 (f k).e, .int .u64 (f k).v, .int .i64 (f k).f, .int .i64 (f k).g, .int .i64 (f k).p] _ (fun j v q => by rw [Nat.zero_add]; exact (hA10.out.2.1 j).trans (by simpa using q)) Tryz.underlying51 rfl (by kernel_rfl))
       go_wp2_with fail
       refine bodyPost_ret (v := (f k).outc) ?_ rfl ⟨rfl, h10.out.drop, hB.out⟩
       exact results_rowZ Tryz.results22 _ _ rfl hrun.out
end Z
end Go.Proofs.YthfphgjjieddjaaGreat


namespace Go.Proofs.YthfphgjjieddjaaGreat
namespace Z
open Go.RowKit
open T (Sep Ob Kp Mf FlIn boxOb)

theorem stepI_e0 (P : Pr) (i : Fi) (s : Fm) (hn : Named i.op) (hop : i.op < 20) (he : s.e = 0) : (stepI P i s).e = 0 := by
 have hc : i.op = 0 ∨ i.op = 1 ∨ i.op = 2 ∨ i.op = 3 ∨ i.op = 4 ∨ i.op = 5 ∨ i.op = 6 ∨ i.op = 7 ∨ i.op = 8 ∨ i.op = 9 ∨ i.op = 10 ∨ i.op = 11 ∨ i.op = 12 ∨ i.op = 13 := by unfold Named at hn; omega
 rcases hc with e | e | e | e | e | e | e | e | e | e | e | e | e | e <;> (unfold stepI; rw [e]; exact he)
theorem dstep_any (P : Pr) (ok : P.Ok) (s : Fm) (n : Nat) (hs : s.Okn P n) (hn : n ≤ 1000000) (hv : s.Vf) (B b : Nat) (c : Dc) : DGo B b c P s (stepsM P s 1) := by
 intro V l h hpg
 by_cases he : s.e = 0
 · have e1 : stepsM P s 1 = stepM P s := by
     show (if s.e = 0 then stepM P s else s) = _
     rw [if_pos he]
   rw [e1]
   have hg := hs.g
   have hso := hs.ok hn
   have e2 : P.code.getD s.g [] = P.code[s.g] := by simp [hg]
   by_cases hp : s.p < P.code[s.g].length
   · have hi : stepM P s = stepI P P.code[s.g][s.p] s := by
       unfold stepM
       rw [e2, List.getElem?_eq_getElem hp]
     rw [hi]
     have hr := ok.row _ (List.getElem_mem hg)
     have ho := hr.2 _ (List.getElem_mem hp)
     have hvf := stepI_vf P P.code[s.g][s.p] s hv
     obtain ⟨i, hii⟩ : ∃ i, P.code[s.g][s.p] = i := ⟨_, rfl⟩
     rw [hii] at ho hvf ⊢
     by_cases h20 : i.op < 20
     · refine dstep_numbers B V b c P s l h he hg hpg i _ hp hii hvf h20 (fun U l' h' _ => ?_)
       refine (dnumbers_any P i s _ hso ho h20 B U b c _ _ l' h').mono ?_
       rintro x w' ⟨q1, q2, q3⟩
       exact ⟨q1, ⟨_, _, q2, DEnd.run (stepI_e0 P i s ho.op h20 he)⟩, q3⟩
     · by_cases h27 : i.op < 27
       · exact dstep_jumps B V b c P s l h he hg hpg i _ hp hii hvf ⟨by omega, h27⟩ (fun U l' h' _ => djumps_any P i s _ hso he ho hr.1.2 ⟨by omega, h27⟩ B U b c _ _ l' h')
       · by_cases h60 : i.op < 60
         · exact dstep_flows B V b c P s l h he hg hpg i _ hp hii hvf ⟨by omega, h60⟩ (fun U l' h' hq => dflows_any P ok i s _ hso he ho ⟨by omega, h60⟩ B U b c _ _ l' h' hq)
         · by_cases h70 : i.op < 70
           · exact dstep_memory B V b c P s l h he hg hpg i _ hp hii hvf ⟨by omega, h70⟩ (fun U l' h' _ => dmemory_any P i s _ hso he ho ⟨by omega, h70⟩ B U b c _ _ l' h')
           · exact dstep_guards B V b c P s l h he hg hpg i _ hp hii hvf (by omega) (fun U l' h' _ => dguards_any P i s _ hso he ho (by omega) B U b c _ _ l' h')
   · have hi : stepM P s = { s with e := 7, v := 0, f := 8 } := by
       unfold stepM
       rw [e2, List.getElem?_eq_none (by omega)]
     rw [hi]
     exact dstepO B V b c P s l h he hg hpg (by omega)
 · rw [stepsM_end P s 1 he]
   exact dstepE B V b c P s l h he
def runF (P : Pr) (s : Fm) (N : Int) : Fm := runM P s (min N 100000).toNat
theorem drun_any (P : Pr) (ok : P.Ok) (rr : P.Rr) (s : Fm) (n : Nat) (hs : s.Okn P n) (hn : n + 100000 ≤ 1000000) (hv : s.Vf) (N : Int) (t : Fm) (ht : runF P s N = t) (B : Nat) (W : World) (b : Nat) (c : Dc) (l : List Ob) (h : DIo B W b c P s s.g s.p l) (hpg : DPg B W c P) :
   Calls Tryz.prog 22 #[.pointer (some ⟨b, 0, none⟩), .int .i64 N] W fun x w' => x = .returned t.outc ∧ DIo B w' b c P t t.g t.p l ∧ Below B W w' := by
 have hk : (min N 100000).toNat ≤ 100000 := by omega
 obtain ⟨m, h1, h2, h3, h4⟩ := stops P s (min N 100000).toNat
 have hG : ∀ k, k < m → DGo B b c P (stepsM P s k) (stepsM P s (k + 1)) := fun k hk2 =>
   dstep_any P ok (stepsM P s k) (n + k) (okn_stepsM P ok rr s n hs k) (by omega) (stepsM_vf P s hv k) B b c
 have ht2 : (if (stepsM P s m).e = 0 then sp (stepsM P s m) else stepsM P s m) = t := by
   rw [← ht, h4]
   rfl
 by_cases hN : N ≤ 100000
 · exact drunA B W b c P l (min N 100000).toNat m N (stepsM P s) h hpg h1 hk h2 hG h3 hN (fun k => by omega) t ht2
 · exact drunB B W b c P l (min N 100000).toNat m N (stepsM P s) h hpg h1 hk h2 hG h3 (by omega) (by omega) t ht2
end Z
end Go.Proofs.YthfphgjjieddjaaGreat


namespace Go.Proofs.YthfphgjjieddjaaGreat
set_option maxRecDepth 100000
set_option maxHeartbeats 40000000
namespace Z
open Go.RowKit
open T (Sep Ob Kp Mf FlIn boxOb)

def FrB (w : World) (g n i : Nat) (V : Nat → Value) : Prop := ∃ U, FRow w g n U ∧ (∀ j, i ≤ j → U j = V j) ∧ ∀ j, j < i → U j = .int .u64 78
theorem FrB.set {w : World} {g n i : Nat} {V : Nat → Value} (h : FrB w g n i V) (hi : i < n) : FrB (w.setCell ⟨g, i, none⟩ (.int .u64 78)) g n (i + 1) V := by
 obtain ⟨U, h1, h2, h3⟩ := h
 refine ⟨_, h1.set i (.int .u64 78) hi, fun j hj => ?_, fun j hj => ?_⟩
 · unfold updF
   rw [if_neg (by omega)]
   exact h2 j (by omega)
 · unfold updF
   by_cases e : j = i
   · rw [if_pos e]
   · rw [if_neg e]
     exact h3 j (by omega)
theorem FrB.at {w : World} {g n i : Nat} {V : Nat → Value} (h : FrB w g n i V) (hi : i < n) : w.cell? ⟨g, i, none⟩ = some (V i) ∧ w.frozen? ⟨g, i, none⟩ = false ∧ g < w.heap.size := by
 obtain ⟨U, h1, h2, _⟩ := h
 exact ⟨by rw [← h2 i (Nat.le_refl i)]; exact h1.at_ i hi, h1.fr i, h1.lt⟩
theorem FrB.block {w w1 : World} {g n i : Nat} {V : Nat → Value} (h : FrB w g n i V) (hs : w.heap.size ≤ w1.heap.size) (hb : w1.heap[g]? = w.heap[g]?) : FrB w1 g n i V := by
 obtain ⟨U, h1, h2⟩ := h
 exact ⟨U, h1.block hs hb, h2⟩
theorem FrB.all {w : World} {g n i : Nat} {V : Nat → Value} (h : FrB w g n i V) (hi : n ≤ i) : FRow w g n (fun _ => .int .u64 78) := by
 obtain ⟨U, h1, _, h3⟩ := h
 exact h1.congr (fun j hj => h3 j (by omega))
theorem spoilt3 (L : List Int) (g : Nat) (sa : Option Addr) (sc : Nat) (w : World) (hF : FRow w g (L.length + 8) (wdA L)) (hL : WIn w sa L) (hg : ∀ b off, sa = some ⟨b, off, none⟩ → 0 < L.length → b ≠ g) (hl : L.length ≤ 2000000) :
   Calls Tryz.prog 19 #[.slice (some ⟨g, 0, none⟩) L.length (L.length + 8), .slice sa L.length sc] w fun x w' => x = .returned (.bool true) ∧ Kp (fun k => k = g) w w' ∧ FRow w' g (L.length + 8) (fun _ => .int .u64 78) := by
 have w1 : wrap64 ((L.length : Int) + 8) = (L.length : Int) + 8 := by unfold wrap64; omega
 have w2 : IntKind.i64.wrap ((L.length : Int) + 8) = (L.length : Int) + 8 := by rw [IntKind.wrap_i64]; omega
 have u2 : (L.length : Int) ≤ (L.length : Int) + 8 := by omega
 have u3 : (0 : Int) ≤ (L.length : Int) + 8 := by omega
 have u4 : ((L.length : Int) + 8).toNat = L.length + 8 := by omega
 have hn8 : L.length + 8 ≤ 3000000 := by omega
 have hF0 := Hz.mk (show FrB w g (L.length + 8) 0 (wdA L) from ⟨_, hF, fun _ _ => rfl, fun _ q => absurd q (Nat.not_lt_zero _)⟩)
 replace hL := Hz.mk hL
 replace hg := Hz.mk hg
 clear hF
 go_enter Tryz.func19, Tryz.ntmps19
 go_upto_region 4 with fail
 go_loopw [6, 7] (fun v x wr => ∃ i : Nat, v = .bool true ∧ x = .int .i64 i ∧ i ≤ L.length + 8 ∧ Hz (FrB wr g (L.length + 8) i (wdA L)) ∧ Hz (Kp (fun k => k = g) w wr)) (fun _ x _ => L.length + 8 - (intOf x).toNat)
 case atStart => exact ⟨0, by first | rfl | simp, rfl, Nat.zero_le _, hF0, Hz.mk (Kp.refl _ w)⟩
 case round =>
   clear hF0
   obtain ⟨i, rfl, rfl, hi, hF, hB⟩ := hrel
   by_cases hin : i < L.length + 8
   · have hi1 : (i : Int) < (L.length : Int) + 8 := by omega
     obtain ⟨c1, f1, hgl⟩ := hF.out.at hin
     have hfr : Hz (FrB (wr.setCell ⟨g, i, none⟩ (.int .u64 78)).drew g (L.length + 8) (i + 1) (wdA L)) := Hz.mk ((hF.out.set hin).block (Nat.le_refl _) rfl)
     have hbn : Hz (Kp (fun k => k = g) w (wr.setCell ⟨g, i, none⟩ (.int .u64 78)).drew) := Hz.mk (Kp.gr1 (hB.out.trans (Kp.set (S := fun k => k = g) wr ⟨g, i, none⟩ (.int .u64 78) rfl) (fun _ q => .inl q)) ((Gr.refl _).drew))
     by_cases hil : i < L.length
     · have hi2 : (i : Int) < (L.length : Int) := by omega
       have hi3 : ¬ (L.length : Int) ≤ (i : Int) := by omega
       obtain ⟨sb, so, rfl, hbl, hcl⟩ := hL.out i hil
       rw [show wdA L i = .int .u64 L[i] by unfold wdA; simp [hil]] at c1
       have c2 : wr.cell? ⟨sb, so + i, none⟩ = some (.int .u64 L[i]) := (T.cell_of_block (hB.out.block sb hbl (hg.out sb so rfl (by omega))) _).trans hcl
       clear hcl
       go_upto_region 6 with fail
       refine wp_region_held_drew (S := (fun X => X.cell? ⟨g, i, none⟩ = some (.int .u64 L[i]) ∧ X.cell? ⟨sb, so + i, none⟩ = some (.int .u64 L[i]))) (by kernel_rfl) (⟨c1, c2⟩) (fun hHeld => ?_)
       refine xso 0 ?_ rfl ?_ (xso 1 ?_ rfl ?_ ?_)
       iterate 2 (rotate_left; focus ((try simp only [xap]); intro w hSw; (try dsimp only at hSw); go_simp; first | done | with_reducible rfl))
       try simp only [xap]
       refine xso 2 ?_ rfl ?_ ?_
       rotate_left
       · intro w hSw; (try dsimp only at hSw); go_simp; first | done | with_reducible rfl
       try simp only [xap]
       refine xso 3 ?_ rfl ?_ ?_
       rotate_left
       · intro w hSw; (try dsimp only at hSw); go_simp; first | done | with_reducible rfl
       try simp only [xap]
       refine xso 4 ?_ rfl ?_ ?_
       rotate_left
       · intro w hSw; (try dsimp only at hSw); go_simp; first | done | with_reducible rfl
       try simp only [xap]
       refine xso 5 ?_ rfl ?_ ?_
       rotate_left
       · intro w hSw; (try dsimp only at hSw); go_simp; first | done | with_reducible rfl
       try simp only [xap]
       refine xso 6 ?_ rfl ?_ ?_
       rotate_left
       · intro w hSw; (try dsimp only at hSw); go_simp; first | done | with_reducible rfl
       try simp only [xap]
       refine xso 7 ?_ rfl ?_ ?_
       rotate_left
       · intro w hSw; (try dsimp only at hSw); go_simp; first | done | with_reducible rfl
       try simp only [xap]
       refine xso 8 ?_ rfl ?_ ?_
       rotate_left
       · intro w hSw; (try dsimp only at hSw); go_simp; first | done | with_reducible rfl
       try simp only [xap]
       refine xso 9 ?_ rfl ?_ ?_
       rotate_left
       · intro w hSw; (try dsimp only at hSw); go_simp; first | done | with_reducible rfl
       try simp only [xap]
       refine xso 10 ?_ rfl ?_ ?_
       rotate_left
       · intro w hSw; (try dsimp only at hSw); go_simp; first | done | with_reducible rfl
       try simp only [xap]
       refine xso 11 ?_ rfl ?_ ?_
       rotate_left
       · intro w hSw; (try dsimp only at hSw); go_simp; first | done | with_reducible rfl
       try simp only [xap]
       refine xso 12 ?_ rfl ?_ ?_
       rotate_left
       · intro w hSw; (try dsimp only at hSw); go_simp; first | done | with_reducible rfl
       try simp only [xap]
       refine xso 13 ?_ rfl ?_ ?_
       rotate_left
       · intro w hSw; (try dsimp only at hSw); go_simp; first | done | with_reducible rfl
       try simp only [xap]
       refine xso 14 ?_ rfl ?_ ?_
       rotate_left
       · intro w hSw; (try dsimp only at hSw); go_simp; first | done | with_reducible rfl
       try simp only [xap]
       refine xso 15 ?_ rfl ?_ ?_
       rotate_left
       · intro w hSw; (try dsimp only at hSw); go_simp; first | done | with_reducible rfl
       try simp only [xap]
       refine xso 16 ?_ rfl ?_ ?_
       rotate_left
       · intro w hSw; (try dsimp only at hSw); go_simp; first | done | with_reducible rfl
       try simp only [xap]
       refine xso 17 ?_ rfl ?_ ?_
       rotate_left
       · intro w hSw; (try dsimp only at hSw); go_simp; first | done | with_reducible rfl
       try simp only [xap]
       refine xtk 18 (v := undef) rfl (Or.inr ⟨by rfl, rfl⟩) ?_
       try simp only [xap]
       refine xtk 19 (v := undef) rfl (Or.inr ⟨by rfl, rfl⟩) ?_
       try simp only [xap]
       refine xtk 20 (v := undef) rfl (Or.inr ⟨by rfl, rfl⟩) ?_
       try simp only [xap]
       refine xtk 21 (v := undef) rfl (Or.inr ⟨by rfl, rfl⟩) ?_
       try simp only [xap]
       refine xtk 22 (v := undef) rfl (Or.inr ⟨by rfl, rfl⟩) ?_
       try simp only [xap]
       refine xtk 23 (v := undef) rfl (Or.inr ⟨by rfl, rfl⟩) ?_
       try simp only [xap]
       refine xtk 24 (v := undef) rfl (Or.inr ⟨by rfl, rfl⟩) ?_
       try simp only [xap]
       refine xtk 25 (v := undef) rfl (Or.inr ⟨by rfl, rfl⟩) ?_
       try simp only [xap]
       refine xtk 26 (v := undef) rfl (Or.inr ⟨by rfl, rfl⟩) ?_
       try simp only [xap]
       refine xtk 27 (v := undef) rfl (Or.inr ⟨by rfl, rfl⟩) ?_
       try simp only [xap]
       refine xtk 28 (v := undef) rfl (Or.inr ⟨by rfl, rfl⟩) ?_
       try simp only [xap]
       refine xso 29 ?_ rfl ?_ (xso 30 ?_ rfl ?_ (xso 31 ?_ rfl ?_ ?_))
       iterate 3 (rotate_left; focus ((try simp only [xap]); intro w hSw; (try dsimp only at hSw); go_simp; first | done | with_reducible rfl))
       try simp only [xap]
       refine xdn ?_ _
       clear hHeld
       go_wp2_with fail
       replace hfr := hfr.out
       replace hbn := hbn.out
       refine ⟨⟨i + 1, ?_, ?_, hin, Hz.mk hfr, Hz.mk hbn⟩, ?_⟩
       · first | rfl | simp
       · first | rfl | rw [next_wZ hin (by omega)] | go_num
       · first | exact next_mZ hin | (rw [next_wZ hin (by omega)]; exact next_mZ hin)
     · have hi2 : ¬ (i : Int) < (L.length : Int) := by omega
       have hi3 : (L.length : Int) ≤ (i : Int) := by omega
       rw [show wdA L i = .int .u64 77 by unfold wdA; simp [List.getD_eq_getElem?_getD, List.getElem?_eq_none (by omega : L.length ≤ i)]] at c1
       go_upto_region 6 with fail
       refine wp_region_held_drew (S := (fun X => X.cell? ⟨g, i, none⟩ = some (.int .u64 77))) (by kernel_rfl) (c1) (fun hHeld => ?_)
       refine xso 0 ?_ rfl ?_ (xso 1 ?_ rfl ?_ ?_)
       iterate 2 (rotate_left; focus ((try simp only [xap]); intro w hSw; (try dsimp only at hSw); go_simp; first | done | with_reducible rfl))
       try simp only [xap]
       refine xso 2 ?_ rfl ?_ ?_
       rotate_left
       · intro w hSw; (try dsimp only at hSw); go_simp; first | done | with_reducible rfl
       try simp only [xap]
       refine xso 3 ?_ rfl ?_ ?_
       rotate_left
       · intro w hSw; (try dsimp only at hSw); go_simp; first | done | with_reducible rfl
       try simp only [xap]
       refine xso 4 ?_ rfl ?_ ?_
       rotate_left
       · intro w hSw; (try dsimp only at hSw); go_simp; first | done | with_reducible rfl
       try simp only [xap]
       refine xso 5 ?_ rfl ?_ ?_
       rotate_left
       · intro w hSw; (try dsimp only at hSw); go_simp; first | done | with_reducible rfl
       try simp only [xap]
       refine xso 6 ?_ rfl ?_ ?_
       rotate_left
       · intro w hSw; (try dsimp only at hSw); go_simp; first | done | with_reducible rfl
       try simp only [xap]
       refine xtk 7 (v := undef) rfl (Or.inr ⟨by rfl, rfl⟩) ?_
       try simp only [xap]
       refine xtk 8 (v := undef) rfl (Or.inr ⟨by rfl, rfl⟩) ?_
       try simp only [xap]
       refine xtk 9 (v := undef) rfl (Or.inr ⟨by rfl, rfl⟩) ?_
       try simp only [xap]
       refine xtk 10 (v := undef) rfl (Or.inr ⟨by rfl, rfl⟩) ?_
       try simp only [xap]
       refine xtk 11 (v := undef) rfl (Or.inr ⟨by rfl, rfl⟩) ?_
       try simp only [xap]
       refine xtk 12 (v := undef) rfl (Or.inr ⟨by rfl, rfl⟩) ?_
       try simp only [xap]
       refine xtk 13 (v := undef) rfl (Or.inr ⟨by rfl, rfl⟩) ?_
       try simp only [xap]
       refine xtk 14 (v := undef) rfl (Or.inr ⟨by rfl, rfl⟩) ?_
       try simp only [xap]
       refine xtk 15 (v := undef) rfl (Or.inr ⟨by rfl, rfl⟩) ?_
       try simp only [xap]
       refine xso 16 ?_ rfl ?_ ?_
       rotate_left
       · intro w hSw; (try dsimp only at hSw); go_simp; first | done | with_reducible rfl
       try simp only [xap]
       refine xso 17 ?_ rfl ?_ ?_
       rotate_left
       · intro w hSw; (try dsimp only at hSw); go_simp; first | done | with_reducible rfl
       try simp only [xap]
       refine xso 18 ?_ rfl ?_ ?_
       rotate_left
       · intro w hSw; (try dsimp only at hSw); go_simp; first | done | with_reducible rfl
       try simp only [xap]
       refine xso 19 ?_ rfl ?_ ?_
       rotate_left
       · intro w hSw; (try dsimp only at hSw); go_simp; first | done | with_reducible rfl
       try simp only [xap]
       refine xso 20 ?_ rfl ?_ ?_
       rotate_left
       · intro w hSw; (try dsimp only at hSw); go_simp; first | done | with_reducible rfl
       try simp only [xap]
       refine xso 21 ?_ rfl ?_ ?_
       rotate_left
       · intro w hSw; (try dsimp only at hSw); go_simp; first | done | with_reducible rfl
       try simp only [xap]
       refine xso 22 ?_ rfl ?_ ?_
       rotate_left
       · intro w hSw; (try dsimp only at hSw); go_simp; first | done | with_reducible rfl
       try simp only [xap]
       refine xso 23 ?_ rfl ?_ ?_
       rotate_left
       · intro w hSw; (try dsimp only at hSw); go_simp; first | done | with_reducible rfl
       try simp only [xap]
       refine xso 24 ?_ rfl ?_ ?_
       rotate_left
       · intro w hSw; (try dsimp only at hSw); go_simp; first | done | with_reducible rfl
       try simp only [xap]
       refine xso 25 ?_ rfl ?_ ?_
       rotate_left
       · intro w hSw; (try dsimp only at hSw); go_simp; first | done | with_reducible rfl
       try simp only [xap]
       refine xso 26 ?_ rfl ?_ ?_
       rotate_left
       · intro w hSw; (try dsimp only at hSw); go_simp; first | done | with_reducible rfl
       try simp only [xap]
       refine xso 27 ?_ rfl ?_ ?_
       rotate_left
       · intro w hSw; (try dsimp only at hSw); go_simp; first | done | with_reducible rfl
       try simp only [xap]
       refine xso 28 ?_ rfl ?_ ?_
       rotate_left
       · intro w hSw; (try dsimp only at hSw); go_simp; first | done | with_reducible rfl
       try simp only [xap]
       refine xso 29 ?_ rfl ?_ (xso 30 ?_ rfl ?_ (xso 31 ?_ rfl ?_ ?_))
       iterate 3 (rotate_left; focus ((try simp only [xap]); intro w hSw; (try dsimp only at hSw); go_simp; first | done | with_reducible rfl))
       try simp only [xap]
       refine xdn ?_ _
       clear hHeld
       go_wp2_with fail
       replace hfr := hfr.out
       replace hbn := hbn.out
       refine ⟨⟨i + 1, ?_, ?_, hin, Hz.mk hfr, Hz.mk hbn⟩, ?_⟩
       · first | rfl | simp
       · first | rfl | rw [next_wZ hin (by omega)] | go_num
       · first | exact next_mZ hin | (rw [next_wZ hin (by omega)]; exact next_mZ hin)
   · have hi1 : ¬ (i : Int) < (L.length : Int) + 8 := by omega
     go_wp2_with fail
     go_ret
     exact ⟨rfl, hB.out, hF.out.all (by omega)⟩
end Z
end Go.Proofs.YthfphgjjieddjaaGreat


namespace Go.Proofs.YthfphgjjieddjaaGreat
set_option maxRecDepth 100000
set_option maxHeartbeats 40000000
namespace Z
open Go.RowKit
open T (Sep Ob Kp Mf FlIn boxOb)

theorem LnA.low {lo lo' hi : Nat} {W : World} {kc kg : Nat} {K : Nat → Nat} {rv : Value} {R : Rp} (h : LnA lo hi W kc kg K rv R) (hl : lo' ≤ lo) : LnA lo' hi W kc kg K rv R :=
 ⟨h.row, fun j hj => ⟨⟨by have := (h.done j hj).1.1; omega, (h.done j hj).1.2⟩, (h.done j hj).2⟩, h.inj, own_monoZ h.own hl, h.ap, h.gates, ⟨by have := h.kc_.1; omega, h.kc_.2⟩, ⟨by have := h.kg_.1; omega, h.kg_.2⟩, h.ne⟩
theorem LnA.inS {lo hi : Nat} {W : World} {kc kg : Nat} {K : Nat → Nat} {rv : Value} {R : Rp} (h : LnA lo hi W kc kg K rv R) {k : Nat} (q : LnS kc kg K R.code.length k) : lo ≤ k ∧ k < hi := by
 rcases q with rfl | rfl | ⟨j, hj, rfl⟩
 · exact h.kc_
 · exact h.kg_
 · exact (h.done j hj).1
theorem made_no70 (R : Rp) (ca ga : Option Addr) (cc gc : Nat) (mem : List UInt8) (gate : Int) (A : List Int) (sa : Option Addr) (sc : Nat) (ia : Option Addr) (ic : Nat) (L : List Int) (w : World) (hP : RpIn w ca ga R) (is : R.Is) (hA : WIn w sa A) (hAl : A.length ≤ 2000000) (hI : InL w ia ic L) (hc : R.code.length ≤ 1500000) (hr : ∀ r ∈ R.code, r.length ≤ 2000000) (hg : R.gates.length ≤ 2000000) (hl : L.length ≤ 2000000) (h : ¬ (R.Ok (T.str mem).size ∧ 0 ≤ gate ∧ gate < (R.gates.length : Int))) :
   Calls Tryz.prog 5 #[.agg #[.slice ca R.code.length cc, .slice ga R.gates.length gc, .string (T.str mem), .int .i64 R.dep], .int .i64 gate, .slice sa A.length sc, .slice ia L.length ic] w fun x w' => x = .returned (.tuple #[.bool true, .pointer none, .pointer none]) ∧ Below w.heap.size w w' := by
 replace hA := Hz.mk hA
 replace hI := Hz.mk hI
 replace hr := Hz.mk hr
 replace hP := Hz.mk hP
 replace is := Hz.mk is
 go_enter Tryz.func5, Tryz.ntmps5
 go_upto_region 1 with fail
 refine wp_world (fun W => At W w.heap.size #[.slice ca R.code.length cc, .slice ga R.gates.length gc, .string (T.str mem), .int .i64 R.dep] ∧ Gr w W) ⟨At.new w _ _, (Gr.refl _).alloc _⟩ ?_
 rintro W ⟨hQ, G⟩
 have hB := Hz.mk G.below
 obtain ⟨km, hkm⟩ : ∃ km, w.heap.size = km := ⟨_, rfl⟩
 rw [hkm] at hQ ⊢
 have hkl := Hz.mk hQ.1
 have hw1 := Hz.mk (words_any A sa sc W (hA.out.below hB.out) hAl)
 replace hQ := Hz.mk hQ
 replace hkm := Hz.mk hkm
 clear G
 go_wp2_with fail
 refine hw1.out.mono ?_
 rintro r W1 ⟨ka, rfl, hka, hFa, hB1⟩
 replace hQ := Hz.mk (at_below hQ.out hB1 hkl.out)
 replace hB := Hz.mk (hB.out.trans (hB1.mono hB.out.size))
 replace hka : Hz (km < ka) := Hz.mk (Nat.lt_of_lt_of_le hkl.out hka)
 replace hkl := Hz.mk (Nat.lt_of_lt_of_le hkl.out hB1.size)
 replace hFa := Hz.mk hFa
 clear hw1 hB1
 have hw2 := Hz.mk (words_any L ia ic W1 (hI.out.win.below hB.out) hl)
 go_wp2_with fail
 refine hw2.out.mono ?_
 rintro r W2 ⟨kb, rfl, hkb, hFb, hB1⟩
 replace hQ := Hz.mk (at_below hQ.out hB1 hkl.out)
 have hab : Hz (ka < kb) := Hz.mk (Nat.lt_of_lt_of_le hFa.out.lt hkb)
 replace hFa := Hz.mk (hFa.out.bel hB1 hFa.out.lt)
 replace hB := Hz.mk (hB.out.trans (hB1.mono hB.out.size))
 replace hkl := Hz.mk (Nat.lt_of_lt_of_le hkl.out hB1.size)
 replace hFb := Hz.mk hFb
 clear hw2 hB1 hkb
 have e0 : W2.cell? ⟨km, 0, none⟩ = some (.slice ca R.code.length cc) := hQ.out.2.1 0
 have e1 : W2.cell? ⟨km, 1, none⟩ = some (.slice ga R.gates.length gc) := hQ.out.2.1 1
 have e2 : W2.cell? ⟨km, 2, none⟩ = some (.string (T.str mem)) := hQ.out.2.1 2
 have e3 : W2.cell? ⟨km, 3, none⟩ = some (.int .i64 R.dep) := hQ.out.2.1 3
 have hln := Hz.mk (lent2_any R ca ga cc gc (T.str mem) W2 (hP.out.below_ hB.out) hc hr.out hg)
 go_wp2_with fail
 refine hln.out.mono ?_
 rintro r W3 ⟨kc, kg, la, lc, K, rfl, hLn, hB1⟩
 have hlo1 : Hz (kb < W2.heap.size) := Hz.mk hFb.out.lt
 have hlo2 : Hz (W2.heap.size ≤ W3.heap.size) := Hz.mk hB1.size
 replace hQ := Hz.mk (at_below hQ.out hB1 hkl.out)
 replace hFb := Hz.mk (hFb.out.bel hB1 hFb.out.lt)
 replace hFa := Hz.mk (hFa.out.bel hB1 (by have := hab.out; have := hlo1.out; omega))
 replace hB := Hz.mk (hB.out.trans (hB1.mono hB.out.size))
 replace hkl := Hz.mk (Nat.lt_of_lt_of_le hkl.out hB1.size)
 replace hLn := Hz.mk hLn
 clear e0 e1 e2 e3 hln hB1
 generalize W2.heap.size = lo at *
 go_upto_region 4 with fail
 refine wp_world (fun V => At V W3.heap.size #[.slice (some ⟨kc, 0, none⟩) R.code.length (R.code.length + 8), .slice (some ⟨kg, 0, none⟩) R.gates.length (R.gates.length + 8), .string (T.str mem), .int .i64 R.dep] ∧ Gr W3 V) ?_ ?_
 · first | exact ⟨At.new W3 _ _, (Gr.refl _).alloc _⟩ | exact ⟨At.setAll (At.new W3 _ _) _ rfl, Gr.setCells ((Gr.refl W3).alloc _) _ (Nat.le_refl _) _ 0⟩
 rintro V ⟨hp, G2⟩
 have hhi : Hz (W3.heap.size ≤ V.heap.size) := Hz.mk G2.below.size
 have hkpl := Hz.mk hp.1
 replace hQ := Hz.mk (hQ.out.gr G2)
 replace hFa := Hz.mk (hFa.out.gr G2)
 replace hFb := Hz.mk (hFb.out.gr G2)
 replace hLn := Hz.mk (hLn.out.bel (B := W3.heap.size) (G2.below) (Nat.le_refl _))
 replace hB := Hz.mk (hB.out.trans (G2.below.mono hB.out.size))
 replace hkl := Hz.mk (Nat.lt_of_lt_of_le hkl.out G2.below.size)
 replace hp := Hz.mk hp
 have hkpn : Hz (km < W3.heap.size ∧ ka < W3.heap.size ∧ kb < W3.heap.size ∧ lo ≤ W3.heap.size) := Hz.mk (by have := hka.out; have := hab.out; have := hlo1.out; have := hlo2.out; omega)
 clear G2 hlo2
 generalize W3.heap.size = kp at *
 have d0 : V.cell? ⟨kp, 0, none⟩ = some (.slice (some ⟨kc, 0, none⟩) R.code.length (R.code.length + 8)) := hp.out.2.1 0
 have d1 : V.cell? ⟨kp, 1, none⟩ = some (.slice (some ⟨kg, 0, none⟩) R.gates.length (R.gates.length + 8)) := hp.out.2.1 1
 have d2 : V.cell? ⟨kp, 2, none⟩ = some (.string (T.str mem)) := hp.out.2.1 2
 have d3 : V.cell? ⟨kp, 3, none⟩ = some (.int .i64 R.dep) := hp.out.2.1 3
 have hnx := Hz.mk (new_no70 R (some ⟨kc, 0, none⟩) (some ⟨kg, 0, none⟩) (R.code.length + 8) (R.gates.length + 8) mem gate (some ⟨ka, 0, none⟩) A.length (A.length + 8) (.slice (some ⟨kb, 0, none⟩) L.length (L.length + 8)) V hLn.out.rp is.out h)
 go_wp2_with fail
 refine hnx.out.mono ?_
 rintro r V4 ⟨rfl, g4⟩
 clear d0 d1 d2 d3 hnx
 have hQV := hQ
 replace hQ := Hz.mk (hQ.out.gr g4)
 have e0 : V4.cell? ⟨km, 0, none⟩ = some (.slice ca R.code.length cc) := hQ.out.2.1 0
 have e1 : V4.cell? ⟨km, 1, none⟩ = some (.slice ga R.gates.length gc) := hQ.out.2.1 1
 have e2 : V4.cell? ⟨km, 2, none⟩ = some (.string (T.str mem)) := hQ.out.2.1 2
 have e3 : V4.cell? ⟨km, 3, none⟩ = some (.int .i64 R.dep) := hQ.out.2.1 3
 have hny := Hz.mk (dnew_no70 R ca ga cc gc mem gate sa A.length sc (.slice ia L.length ic) V4 (hP.out.below_ (hB.out.trans (g4.below.mono hB.out.size))) is.out hr.out h)
 go_wp2_with fail
 refine hny.out.mono ?_
 rintro r V5 ⟨rfl, g5⟩
 have hS := Hz.mk ((g4.trans g5).below)
 replace hQ : Hz (At V km #[.slice ca R.code.length cc, .slice ga R.gates.length gc, .string (T.str mem), .int .i64 R.dep]) := Hz.mk hQV.out
 clear e0 e1 e2 e3 hny g4 g5
 replace hFa := Hz.mk (hFa.out.bel hS.out hFa.out.lt)
 replace hFb := Hz.mk (hFb.out.bel hS.out hFb.out.lt)
 replace hLn := Hz.mk (hLn.out.bel hS.out hhi.out)
 replace hQ := Hz.mk (at_below hQ.out hS.out hkl.out)
 replace hp := Hz.mk (at_below hp.out hS.out hkpl.out)
 have hBw := Hz.mk (hB.out.trans (hS.out.mono hB.out.size))
 have hsz : Hz (V.heap.size ≤ V5.heap.size) := Hz.mk hS.out.size
 have hWA := Hz.mk (hA.out.below hBw.out)
 have hsp := Hz.mk (spoilt3 A ka sa sc V5 hFa.out hWA.out (fun b off e h0 => by
   obtain ⟨b2, off2, e2, e3, _⟩ := hA.out 0 h0
   rw [e] at e2
   injection e2 with e2
   injection e2 with e2
   have := hka.out; have := hkm.out; omega) hAl)
 go_wp2_with fail
 refine hsp.out.mono ?_
 rintro r V6 ⟨rfl, hk6, _⟩
 replace hFb := Hz.mk (hFb.out.keep hk6 (by have := hab.out; omega))
 replace hLn := Hz.mk (hLn.out.keep hk6 (fun k h1 h2 (q : k = ka) => by have := hab.out; have := hlo1.out; omega))
 replace hQ := Hz.mk (at_keep hQ.out hk6 (by have := hka.out; omega))
 replace hp := Hz.mk (at_keep hp.out hk6 (by have := hkpn.out; omega))
 replace hBw := Hz.mk (hBw.out.trans (hk6.below (B := w.heap.size) (by have := hBw.out.size; omega) (fun k (q : k = ka) => by have := hkm.out; have := hka.out; omega)))
 have hkA : Hz (Kp (fun k => w.heap.size ≤ k ∧ k < V.heap.size) V5 V6) := Hz.mk (Kp.mono hk6 (fun k (q : k = ka) => .inl (by have := hkm.out; have := hka.out; have := hkpn.out; have := hhi.out; omega)))
 replace hsz := Hz.mk (Nat.le_trans hsz.out hk6.size)
 clear hsp hWA hk6 hFa
 have hWI := Hz.mk (hI.out.win.below hBw.out)
 have hsp := Hz.mk (spoilt3 L kb ia ic V6 hFb.out hWI.out (fun b off e h0 => by
   obtain ⟨b2, off2, e2, e3, _⟩ := hI.out.win 0 h0
   rw [e] at e2
   injection e2 with e2
   injection e2 with e2
   have := hka.out; have := hab.out; have := hkm.out; omega) hl)
 go_wp2_with fail
 refine hsp.out.mono ?_
 rintro r V7 ⟨rfl, hk7, _⟩
 replace hLn := Hz.mk (hLn.out.keep hk7 (fun k h1 h2 (q : k = kb) => by have := hlo1.out; omega))
 replace hQ := Hz.mk (at_keep hQ.out hk7 (by have := hka.out; have := hab.out; omega))
 replace hp := Hz.mk (at_keep hp.out hk7 (by have := hkpn.out; omega))
 replace hBw := Hz.mk (hBw.out.trans (hk7.below (B := w.heap.size) (by have := hBw.out.size; omega) (fun k (q : k = kb) => by have := hkm.out; have := hka.out; have := hab.out; omega)))
 replace hkA : Hz (Kp (fun k => w.heap.size ≤ k ∧ k < V.heap.size) V5 V7) := Hz.mk (hkA.out.trans (Kp.mono hk7 (fun k (q : k = kb) => .inl (by have := hkm.out; have := hka.out; have := hab.out; have := hkpn.out; have := hhi.out; omega : w.heap.size ≤ k ∧ k < V.heap.size))) (fun _ q => .inl q))
 replace hsz := Hz.mk (Nat.le_trans hsz.out hk7.size)
 clear hsp hWI hk7 hFb
 have d0 : V7.cell? ⟨kp, 0, none⟩ = some (.slice (some ⟨kc, 0, none⟩) R.code.length (R.code.length + 8)) := hp.out.2.1 0
 have d1 : V7.cell? ⟨kp, 1, none⟩ = some (.slice (some ⟨kg, 0, none⟩) R.gates.length (R.gates.length + 8)) := hp.out.2.1 1
 have d2 : V7.cell? ⟨kp, 2, none⟩ = some (.string (T.str mem)) := hp.out.2.1 2
 have d3 : V7.cell? ⟨kp, 3, none⟩ = some (.int .i64 R.dep) := hp.out.2.1 3
 have e0 : V7.cell? ⟨km, 0, none⟩ = some (.slice ca R.code.length cc) := hQ.out.2.1 0
 have e1 : V7.cell? ⟨km, 1, none⟩ = some (.slice ga R.gates.length gc) := hQ.out.2.1 1
 have e2 : V7.cell? ⟨km, 2, none⟩ = some (.string (T.str mem)) := hQ.out.2.1 2
 have e3 : V7.cell? ⟨km, 3, none⟩ = some (.int .i64 R.dep) := hQ.out.2.1 3
 have hLw := Hz.mk (hLn.out.low (lo' := w.heap.size) (by have := hkm.out; have := hka.out; have := hab.out; have := hlo1.out; omega))
 have hbk := Hz.mk (back_any R ca ga cc gc (T.str mem) w.heap.size kp V7 kc kg K la lc hLw.out (Nat.le_trans hhi.out hsz.out) ⟨w, rfl, hBw.out, hP.out⟩ hc hr.out hg)
 go_wp2_with fail
 refine hbk.out.mono ?_
 rintro r V8 ⟨rfl, hk8⟩
 have hk8b := Hz.mk (Kp.mono (S1 := fun k => w.heap.size ≤ k ∧ k < V.heap.size) hk8 (fun k q => .inl (by have := hLw.out.inS q; have := hhi.out; omega)))
 replace hkA : Hz (Kp (fun k => w.heap.size ≤ k ∧ k < V.heap.size) V5 V8) := Hz.mk (hkA.out.trans hk8b.out (fun _ q => .inl q))
 replace hBw := Hz.mk (hBw.out.trans (hk8b.out.below (B := w.heap.size) (by have := hBw.out.size; omega) (fun k q => q.1)))
 clear d0 d1 d2 d3 e0 e1 e2 e3 hbk hk8 hk8b
 go_wp2_with fail
 go_ret3
 exact ⟨rfl, hBw.out⟩
theorem made_ok (R : Rp) (ca ga : Option Addr) (cc gc : Nat) (mem : List UInt8) (gate : Nat) (A : List Int) (sa : Option Addr) (sc : Nat) (ia : Option Addr) (ic : Nat) (L : List Int) (w : World) (hP : RpIn w ca ga R) (is : R.Is) (hA : WIn w sa A) (hAl : A.length ≤ 2000000) (hI : InL w ia ic L) (hc : R.code.length ≤ 1500000) (hr : ∀ r ∈ R.code, r.length ≤ 2000000) (hg : R.gates.length ≤ 2000000) (hl : L.length ≤ 2000000) (hcap : ∀ a, ia = some a → L.length ≤ ic) (ok : R.Ok mem.length) (hgl : gate < R.gates.length) (hna : (A.length : Int) = R.gates[gate].a) :
   Calls Tryz.prog 5 #[.agg #[.slice ca R.code.length cc, .slice ga R.gates.length gc, .string (T.str mem), .int .i64 R.dep], .int .i64 gate, .slice sa A.length sc, .slice ia L.length ic] w fun x w' => ∃ a b, x = .returned (.tuple #[.bool true, .pointer (some ⟨a, 0, none⟩), .pointer (some ⟨b, 0, none⟩)]) ∧ MD w.heap.size w' R.pr a (start R.gates[gate].fg gate A.length (srcA A) L mem) b ⟨ca, ga, cc, gc, .string (T.str mem)⟩ (start R.gates[gate].fg gate A.length (srcA A) L mem) [] ∧ DPg w.heap.size w' ⟨ca, ga, cc, gc, .string (T.str mem)⟩ R.pr ∧ Below w.heap.size w w' := by
 replace hcap := Hz.mk hcap
 obtain ⟨s0, hs0⟩ : ∃ s, start R.gates[gate].fg gate A.length (srcA A) L mem = s := ⟨_, rfl⟩
 have hok := Hz.mk ok
 have hna' := Hz.mk hna
 replace hA := Hz.mk hA
 replace hI := Hz.mk hI
 replace hr := Hz.mk hr
 replace hP := Hz.mk hP
 replace is := Hz.mk is
 go_enter Tryz.func5, Tryz.ntmps5
 go_upto_region 1 with fail
 refine wp_world (fun W => At W w.heap.size #[.slice ca R.code.length cc, .slice ga R.gates.length gc, .string (T.str mem), .int .i64 R.dep] ∧ Gr w W) ⟨At.new w _ _, (Gr.refl _).alloc _⟩ ?_
 rintro W ⟨hQ, G⟩
 have hB := Hz.mk G.below
 obtain ⟨km, hkm⟩ : ∃ km, w.heap.size = km := ⟨_, rfl⟩
 rw [hkm] at hQ ⊢
 have hkl := Hz.mk hQ.1
 have hw1 := Hz.mk (words_any A sa sc W (hA.out.below hB.out) hAl)
 replace hQ := Hz.mk hQ
 replace hkm := Hz.mk hkm
 clear G
 go_wp2_with fail
 refine hw1.out.mono ?_
 rintro r W1 ⟨ka, rfl, hka, hFa, hB1⟩
 replace hQ := Hz.mk (at_below hQ.out hB1 hkl.out)
 replace hB := Hz.mk (hB.out.trans (hB1.mono hB.out.size))
 replace hka : Hz (km < ka) := Hz.mk (Nat.lt_of_lt_of_le hkl.out hka)
 replace hkl := Hz.mk (Nat.lt_of_lt_of_le hkl.out hB1.size)
 replace hFa := Hz.mk hFa
 clear hw1 hB1
 have hw2 := Hz.mk (words_any L ia ic W1 (hI.out.win.below hB.out) hl)
 go_wp2_with fail
 refine hw2.out.mono ?_
 rintro r W2 ⟨kb, rfl, hkb, hFb, hB1⟩
 replace hQ := Hz.mk (at_below hQ.out hB1 hkl.out)
 have hab : Hz (ka < kb) := Hz.mk (Nat.lt_of_lt_of_le hFa.out.lt hkb)
 replace hFa := Hz.mk (hFa.out.bel hB1 hFa.out.lt)
 replace hB := Hz.mk (hB.out.trans (hB1.mono hB.out.size))
 replace hkl := Hz.mk (Nat.lt_of_lt_of_le hkl.out hB1.size)
 replace hFb := Hz.mk hFb
 clear hw2 hB1 hkb
 have e0 : W2.cell? ⟨km, 0, none⟩ = some (.slice ca R.code.length cc) := hQ.out.2.1 0
 have e1 : W2.cell? ⟨km, 1, none⟩ = some (.slice ga R.gates.length gc) := hQ.out.2.1 1
 have e2 : W2.cell? ⟨km, 2, none⟩ = some (.string (T.str mem)) := hQ.out.2.1 2
 have e3 : W2.cell? ⟨km, 3, none⟩ = some (.int .i64 R.dep) := hQ.out.2.1 3
 have hln := Hz.mk (lent2_any R ca ga cc gc (T.str mem) W2 (hP.out.below_ hB.out) hc hr.out hg)
 go_wp2_with fail
 refine hln.out.mono ?_
 rintro r W3 ⟨kc, kg, la, lc, K, rfl, hLn, hB1⟩
 have hlo1 : Hz (kb < W2.heap.size) := Hz.mk hFb.out.lt
 have hlo2 : Hz (W2.heap.size ≤ W3.heap.size) := Hz.mk hB1.size
 replace hQ := Hz.mk (at_below hQ.out hB1 hkl.out)
 replace hFb := Hz.mk (hFb.out.bel hB1 hFb.out.lt)
 replace hFa := Hz.mk (hFa.out.bel hB1 (by have := hab.out; have := hlo1.out; omega))
 replace hB := Hz.mk (hB.out.trans (hB1.mono hB.out.size))
 replace hkl := Hz.mk (Nat.lt_of_lt_of_le hkl.out hB1.size)
 replace hLn := Hz.mk hLn
 clear e0 e1 e2 e3 hln hB1
 generalize W2.heap.size = lo at *
 go_upto_region 4 with fail
 refine wp_world (fun V => At V W3.heap.size #[.slice (some ⟨kc, 0, none⟩) R.code.length (R.code.length + 8), .slice (some ⟨kg, 0, none⟩) R.gates.length (R.gates.length + 8), .string (T.str mem), .int .i64 R.dep] ∧ Gr W3 V) ?_ ?_
 · first | exact ⟨At.new W3 _ _, (Gr.refl _).alloc _⟩ | exact ⟨At.setAll (At.new W3 _ _) _ rfl, Gr.setCells ((Gr.refl W3).alloc _) _ (Nat.le_refl _) _ 0⟩
 rintro V ⟨hp, G2⟩
 have hhi : Hz (W3.heap.size ≤ V.heap.size) := Hz.mk G2.below.size
 have hkpl := Hz.mk hp.1
 replace hQ := Hz.mk (hQ.out.gr G2)
 replace hFa := Hz.mk (hFa.out.gr G2)
 replace hFb := Hz.mk (hFb.out.gr G2)
 replace hLn := Hz.mk (hLn.out.bel (B := W3.heap.size) (G2.below) (Nat.le_refl _))
 replace hB := Hz.mk (hB.out.trans (G2.below.mono hB.out.size))
 replace hkl := Hz.mk (Nat.lt_of_lt_of_le hkl.out G2.below.size)
 replace hp := Hz.mk hp
 have hkpn : Hz (km < W3.heap.size ∧ ka < W3.heap.size ∧ kb < W3.heap.size ∧ lo ≤ W3.heap.size) := Hz.mk (by have := hka.out; have := hab.out; have := hlo1.out; have := hlo2.out; omega)
 clear G2 hlo2
 generalize W3.heap.size = kp at *
 have d0 : V.cell? ⟨kp, 0, none⟩ = some (.slice (some ⟨kc, 0, none⟩) R.code.length (R.code.length + 8)) := hp.out.2.1 0
 have d1 : V.cell? ⟨kp, 1, none⟩ = some (.slice (some ⟨kg, 0, none⟩) R.gates.length (R.gates.length + 8)) := hp.out.2.1 1
 have d2 : V.cell? ⟨kp, 2, none⟩ = some (.string (T.str mem)) := hp.out.2.1 2
 have d3 : V.cell? ⟨kp, 3, none⟩ = some (.int .i64 R.dep) := hp.out.2.1 3
 have hnx := Hz.mk (new_raw R (some ⟨kc, 0, none⟩) (some ⟨kg, 0, none⟩) (R.code.length + 8) (R.gates.length + 8) mem gate (some ⟨ka, 0, none⟩) A.length (A.length + 8) (srcA A) (some ⟨kb, 0, none⟩) (L.length + 8) L V hLn.out.rp is.out hok.out hgl hna'.out (src_row hFa.out) hl (inl_row hFb.out))
 rw [hs0] at hnx
 go_wp2_with fail
 refine hnx.out.mono ?_
 rintro r V4 ⟨a, rfl, hM, hb4⟩
 clear d0 d1 d2 d3 hnx
 have hQV := hQ
 replace hQ := Hz.mk (at_below hQ.out hb4 hkl.out)
 obtain ⟨q4, hs4⟩ := sep_both (snap_sep w.heap.size V) hB.out.size hM hb4
 have hB4 := Hz.mk (hB.out.trans (hb4.mono hB.out.size))
 have hpg : Hz (DPg w.heap.size V4 ⟨ca, ga, cc, gc, .string (T.str mem)⟩ R.pr) := Hz.mk ⟨w, rfl, hB4.out, hok.out.rw is.out hP.out⟩
 replace hs4 := Hz.mk hs4
 replace hM := Hz.mk hM
 replace hb4 := Hz.mk hb4
 have e0 : V4.cell? ⟨km, 0, none⟩ = some (.slice ca R.code.length cc) := hQ.out.2.1 0
 have e1 : V4.cell? ⟨km, 1, none⟩ = some (.slice ga R.gates.length gc) := hQ.out.2.1 1
 have e2 : V4.cell? ⟨km, 2, none⟩ = some (.string (T.str mem)) := hQ.out.2.1 2
 have e3 : V4.cell? ⟨km, 3, none⟩ = some (.int .i64 R.dep) := hQ.out.2.1 3
 have hny := Hz.mk (dnew_ok R ca ga cc gc mem gate sa A.length sc (srcA A) ia ic L V4 (hP.out.below_ hB4.out) is.out hok.out hr.out hgl hna'.out w.heap.size hB4.out.size hpg.out (LgIn.of ((LfIn.of hI.out hcap.out w.heap.size (Nat.le_refl _)).below hB4.out)) _ (gi_low hs4.out ((LfIn.of hI.out hcap.out w.heap.size (Nat.le_refl _)).lows _)) (by
   by_cases hA0 : A.length = 0
   · exact .inl hA0
   · obtain ⟨b, off, e1, _, _⟩ := hA.out 0 (by omega)
     refine .inr ⟨b, off, e1, fun X hX _ j hj => ?_⟩
     obtain ⟨b2, off2, e3, e4, e5⟩ := hA.out j hj
     rw [e1] at e3
     injection e3 with e3
     injection e3 with e3 e6
     subst e3 e6
     rw [T.cell_of_block ((hB4.out.trans hX).block b e4), e5]
     unfold srcA
     simp [hj]) s0 hs0)
 go_wp2_with fail
 refine hny.out.mono ?_
 rintro r V5 ⟨b, rfl, hD5, hb5⟩
 have hsn := hD5.there (snapOb w.heap.size V) (by simp)
 have hS := Hz.mk (snap_below hsn ((hb4.out.mono hB.out.size).trans hb5))
 have hMD : Hz (MD w.heap.size V5 R.pr a s0 b ⟨ca, ga, cc, gc, .string (T.str mem)⟩ s0 [snapOb w.heap.size V]) := Hz.mk ⟨q4, hD5⟩
 replace hQ := hQV
 clear e0 e1 e2 e3 hny hb5 hD5 hsn hQV hs4 hM
 replace hFa := Hz.mk (hFa.out.bel hS.out hFa.out.lt)
 replace hFb := Hz.mk (hFb.out.bel hS.out hFb.out.lt)
 replace hLn := Hz.mk (hLn.out.bel hS.out hhi.out)
 replace hQ := Hz.mk (at_below hQ.out hS.out hkl.out)
 replace hp := Hz.mk (at_below hp.out hS.out hkpl.out)
 have hBw := Hz.mk (hB.out.trans (hS.out.mono hB.out.size))
 have hsz : Hz (V.heap.size ≤ V5.heap.size) := Hz.mk hS.out.size
 have hWA := Hz.mk (hA.out.below hBw.out)
 have hsp := Hz.mk (spoilt3 A ka sa sc V5 hFa.out hWA.out (fun b off e h0 => by
   obtain ⟨b2, off2, e2, e3, _⟩ := hA.out 0 h0
   rw [e] at e2
   injection e2 with e2
   injection e2 with e2
   have := hka.out; have := hkm.out; omega) hAl)
 go_wp2_with fail
 refine hsp.out.mono ?_
 rintro r V6 ⟨rfl, hk6, _⟩
 replace hFb := Hz.mk (hFb.out.keep hk6 (by have := hab.out; omega))
 replace hLn := Hz.mk (hLn.out.keep hk6 (fun k h1 h2 (q : k = ka) => by have := hab.out; have := hlo1.out; omega))
 replace hQ := Hz.mk (at_keep hQ.out hk6 (by have := hka.out; omega))
 replace hp := Hz.mk (at_keep hp.out hk6 (by have := hkpn.out; omega))
 replace hBw := Hz.mk (hBw.out.trans (hk6.below (B := w.heap.size) (by have := hBw.out.size; omega) (fun k (q : k = ka) => by have := hkm.out; have := hka.out; omega)))
 have hkA : Hz (Kp (fun k => w.heap.size ≤ k ∧ k < V.heap.size) V5 V6) := Hz.mk (Kp.mono hk6 (fun k (q : k = ka) => .inl (by have := hkm.out; have := hka.out; have := hkpn.out; have := hhi.out; omega)))
 replace hsz := Hz.mk (Nat.le_trans hsz.out hk6.size)
 clear hsp hWA hk6 hFa
 have hWI := Hz.mk (hI.out.win.below hBw.out)
 have hsp := Hz.mk (spoilt3 L kb ia ic V6 hFb.out hWI.out (fun b off e h0 => by
   obtain ⟨b2, off2, e2, e3, _⟩ := hI.out.win 0 h0
   rw [e] at e2
   injection e2 with e2
   injection e2 with e2
   have := hka.out; have := hab.out; have := hkm.out; omega) hl)
 go_wp2_with fail
 refine hsp.out.mono ?_
 rintro r V7 ⟨rfl, hk7, _⟩
 replace hLn := Hz.mk (hLn.out.keep hk7 (fun k h1 h2 (q : k = kb) => by have := hlo1.out; omega))
 replace hQ := Hz.mk (at_keep hQ.out hk7 (by have := hka.out; have := hab.out; omega))
 replace hp := Hz.mk (at_keep hp.out hk7 (by have := hkpn.out; omega))
 replace hBw := Hz.mk (hBw.out.trans (hk7.below (B := w.heap.size) (by have := hBw.out.size; omega) (fun k (q : k = kb) => by have := hkm.out; have := hka.out; have := hab.out; omega)))
 replace hkA : Hz (Kp (fun k => w.heap.size ≤ k ∧ k < V.heap.size) V5 V7) := Hz.mk (hkA.out.trans (Kp.mono hk7 (fun k (q : k = kb) => .inl (by have := hkm.out; have := hka.out; have := hab.out; have := hkpn.out; have := hhi.out; omega : w.heap.size ≤ k ∧ k < V.heap.size))) (fun _ q => .inl q))
 replace hsz := Hz.mk (Nat.le_trans hsz.out hk7.size)
 clear hsp hWI hk7 hFb
 have d0 : V7.cell? ⟨kp, 0, none⟩ = some (.slice (some ⟨kc, 0, none⟩) R.code.length (R.code.length + 8)) := hp.out.2.1 0
 have d1 : V7.cell? ⟨kp, 1, none⟩ = some (.slice (some ⟨kg, 0, none⟩) R.gates.length (R.gates.length + 8)) := hp.out.2.1 1
 have d2 : V7.cell? ⟨kp, 2, none⟩ = some (.string (T.str mem)) := hp.out.2.1 2
 have d3 : V7.cell? ⟨kp, 3, none⟩ = some (.int .i64 R.dep) := hp.out.2.1 3
 have e0 : V7.cell? ⟨km, 0, none⟩ = some (.slice ca R.code.length cc) := hQ.out.2.1 0
 have e1 : V7.cell? ⟨km, 1, none⟩ = some (.slice ga R.gates.length gc) := hQ.out.2.1 1
 have e2 : V7.cell? ⟨km, 2, none⟩ = some (.string (T.str mem)) := hQ.out.2.1 2
 have e3 : V7.cell? ⟨km, 3, none⟩ = some (.int .i64 R.dep) := hQ.out.2.1 3
 have hLw := Hz.mk (hLn.out.low (lo' := w.heap.size) (by have := hkm.out; have := hka.out; have := hab.out; have := hlo1.out; omega))
 have hbk := Hz.mk (back_any R ca ga cc gc (T.str mem) w.heap.size kp V7 kc kg K la lc hLw.out (Nat.le_trans hhi.out hsz.out) ⟨w, rfl, hBw.out, hP.out⟩ hc hr.out hg)
 go_wp2_with fail
 refine hbk.out.mono ?_
 rintro r V8 ⟨rfl, hk8⟩
 have hk8b := Hz.mk (Kp.mono (S1 := fun k => w.heap.size ≤ k ∧ k < V.heap.size) hk8 (fun k q => .inl (by have := hLw.out.inS q; have := hhi.out; omega)))
 replace hkA : Hz (Kp (fun k => w.heap.size ≤ k ∧ k < V.heap.size) V5 V8) := Hz.mk (hkA.out.trans hk8b.out (fun _ q => .inl q))
 replace hBw := Hz.mk (hBw.out.trans (hk8b.out.below (B := w.heap.size) (by have := hBw.out.size; omega) (fun k q => q.1)))
 clear d0 d1 d2 d3 e0 e1 e2 e3 hbk hk8 hk8b
 go_wp2_with fail
 go_ret3
 obtain ⟨hMD8, _⟩ := hMD.out.over hkA.out (fun k q => q.1)
 refine ⟨a, b, rfl, ?_, ⟨w, rfl, hBw.out, hok.out.rw is.out hP.out⟩, hBw.out⟩
 rw [hs0]
 exact hMD8
end Z
end Go.Proofs.YthfphgjjieddjaaGreat


namespace Go.Proofs.YthfphgjjieddjaaGreat
set_option maxRecDepth 100000
set_option maxHeartbeats 40000000
namespace Z
open Go.RowKit
open T (Sep Ob Kp Mf FlIn boxOb)

theorem DIo.snap {B : Nat} {W : World} {b : Nat} {c : Dc} {P : Pr} {s : Fm} {og op : Nat} {l : List Ob} (h : DIo B W b c P s og op l) : ∃ sa sc, ∀ V, Gr W V → V.cell? ⟨b, 4, none⟩ = some (.int .i64 s.g) ∧ V.cell? ⟨b, 5, none⟩ = some (.int .i64 s.p) ∧ V.cell? ⟨b, 22, none⟩ = some (.slice sa s.st.length sc) ∧ V.rangeAt b 6 (regs s.r) := by
 obtain ⟨⟨q, h1, _⟩, le⟩ := h
 have hb := h1.ins (dbOb b (dxOf c P s q og op)) (by simp [dobs])
 have hO := h1.ins (rowOb B 119 18 q.sv s.st.length (s.st.flatMap Fr.vals)) (by simp [dobs])
 obtain ⟨sa, sc, e⟩ : ∃ sa sc, q.sv = .slice sa s.st.length sc := by
   rcases hO.2 with ⟨e1, e2⟩ | ⟨g, cap, cur, e1, _⟩
   · exact ⟨none, 0, by rw [e1, e2]⟩
   · exact ⟨_, _, e1⟩
 refine ⟨sa, sc, fun V g => ?_⟩
 have hk := fun j => T.cell_of_block (g.below.block b hb.1) j
 refine ⟨(hk _).trans (hb.at_ 4 (by omega)), (hk _).trans (hb.at_ 5 (by omega)), ?_, fun j v qv => ?_⟩
 · rw [← e]
   exact (hk _).trans (hb.at_ 22 (by omega))
 · have hj : j < 16 := by have := (List.getElem?_eq_some_iff.1 qv).1; rwa [regs_len] at this
   rw [regs_at s.r j hj] at qv
   refine (hk _).trans ((hb.at_ (6 + j) (by omega)).trans ?_)
   rw [Dx.reg _ j hj]
   exact qv
theorem dsnap_any (B : Nat) (W : World) (b : Nat) (c : Dc) (P : Pr) (s : Fm) (og op : Nat) (l : List Ob) (h : DIo B W b c P s og op l) :
   Calls Tryz.prog 10 #[.pointer (some ⟨b, 0, none⟩)] W fun x w' => x = .returned (.agg (snV s.g s.p s.st.length s.r).toArray) ∧ Gr W w' := by
 obtain ⟨sa, sc, KS⟩ := h.snap
 replace KS := Hz.mk KS
 clear h
 go_enter Tryz.func10, Tryz.ntmps10
 go_upto_region 1 with fail
 refine wp_world (fun V => At V W.heap.size (List.toArray [Value.int .i64 0, .int .i64 0, .int .i64 0, .int .u64 0, .int .u64 0, .int .u64 0, .int .u64 0, .int .u64 0, .int .u64 0, .int .u64 0, .int .u64 0, .int .u64 0, .int .u64 0, .int .u64 0, .int .u64 0, .int .u64 0, .int .u64 0, .int .u64 0, .int .u64 0]) ∧ Gr W V) ⟨At.new W _ _, (Gr.refl _).alloc _⟩ ?_
 rintro V ⟨hA, G⟩
 have hkW : W.heap.size ≤ W.heap.size := Nat.le_refl _
 generalize hk : W.heap.size = kr at hA hkW ⊢
 have hAd : At V.drew kr (List.toArray [Value.int .i64 0, .int .i64 0, .int .i64 0, .int .u64 0, .int .u64 0, .int .u64 0, .int .u64 0, .int .u64 0, .int .u64 0, .int .u64 0, .int .u64 0, .int .u64 0, .int .u64 0, .int .u64 0, .int .u64 0, .int .u64 0, .int .u64 0, .int .u64 0, .int .u64 0]) := hA.gr (Gr.refl V).drew
 have Gd := G.drew
 have hth := Hz.mk (At.there (cs := [Value.int .i64 0, .int .i64 0, .int .i64 0, .int .u64 0, .int .u64 0, .int .u64 0, .int .u64 0, .int .u64 0, .int .u64 0, .int .u64 0, .int .u64 0, .int .u64 0, .int .u64 0, .int .u64 0, .int .u64 0, .int .u64 0, .int .u64 0, .int .u64 0, .int .u64 0]) hAd 0 19 (by decide))
 have hA2 := Hz.mk (At.setAll (cs := [Value.int .i64 0, .int .i64 0, .int .i64 0, .int .u64 0, .int .u64 0, .int .u64 0, .int .u64 0, .int .u64 0, .int .u64 0, .int .u64 0, .int .u64 0, .int .u64 0, .int .u64 0, .int .u64 0, .int .u64 0, .int .u64 0, .int .u64 0, .int .u64 0, .int .u64 0]) hAd (snV s.g s.p s.st.length s.r) (by rw [snV_len]; rfl))
 have G2 := Hz.mk (Gr.setCells Gd kr (by omega) (snV s.g s.p s.st.length s.r) 0)
 rw [← snV_len s.g s.p s.st.length s.r] at hth
 clear hA hAd G
 refine wp_region_held_drew (S := (fun W => W.cell? ⟨b, 4, none⟩ = some (.int .i64 s.g) ∧ W.cell? ⟨b, 5, none⟩ = some (.int .i64 s.p) ∧ W.cell? ⟨b, 22, none⟩ = some (.slice sa s.st.length sc) ∧ W.rangeAt b 6 (regs s.r))) (by kernel_rfl) (KS.out _ Gd) (fun hHeld => ?_)
 refine xso 0 ?_ rfl ?_ (xso 1 ?_ rfl ?_ (xso 2 ?_ rfl ?_ (xso 3 ?_ rfl ?_ (xso 4 ?_ rfl ?_ (xso 5 ?_ rfl ?_ (xso 6 ?_ rfl ?_ (xso 7 ?_ rfl ?_ (xso 8 ?_ rfl ?_ (xso 9 ?_ rfl ?_ (xso 10 ?_ rfl ?_ (xso 11 ?_ rfl ?_ (xso 12 ?_ rfl ?_ (xso 13 ?_ rfl ?_ (xso 14 ?_ rfl ?_ (xso 15 ?_ rfl ?_ ?_)))))))))))))))
 iterate 16 (rotate_left; focus ((try simp only [xap]); intro w hSw; (try dsimp only at hSw); go_simp; first | done | with_reducible rfl))
 try simp only [xap]
 refine xtk 16 rfl (yieldsIf_load_mid (by rfl) _ _ rfl _ _ rfl _ _ (fun _ h => h.2.2.2) Tryz.underlying35 rfl (by rw [regs_len]; kernel_rfl)) ?_
 try simp only [xap]
 refine xtk 17 rfl (yields_sn (by rfl) _ _ _ _ rfl _ _ _ s.r (by rfl) (by rfl) (by rfl) (by rfl)) ?_
 try simp only [xap]
 refine xrd 18 rfl (fun K hK => ?_)
 rw [if_pos (by rfl)]
 refine wp_store_mid _ _ _ rfl _ _ (List.toArray (snV s.g s.p s.st.length s.r)) rfl rfl (hth.out) (by rw [List.size_toArray, snV_len]; kernel_rfl) (snV_one _ _ _ _) ?_
 refine hK.out _ _ (KS.out _ G2.out) (fun hHeld => ?_)
 clear hK K
 try simp only [Act.put]
 refine xdn ?_ _
 clear hHeld
 generalize World.setCells _ _ _ _ = Z at *
 have hrun := Hz.mk (run_loadVar_mid (P := Tryz.prog) Z kr 0 37 (snV s.g s.p s.st.length s.r) _ (fun j v q => by rw [Nat.zero_add]; exact (hA2.out.2.1 j).trans (by simpa using q)) Tryz.underlying37 rfl (by rw [snV_len]; kernel_rfl))
 go_wp2_with fail
 refine bodyPost_ret (v := .agg (snV s.g s.p s.st.length s.r).toArray) ?_ rfl ⟨rfl, G2.out⟩
 exact results_rowZ Tryz.results10 _ _ rfl hrun.out
theorem dstring_of (w : World) (g k : Nat) (m : Nat → UInt8) (h : ∀ i, i < 65536 → w.cell? ⟨g, i, none⟩ = some (.int .u8 (m i).toNat)) : (convert 69 9 (.slice (some ⟨g, 0, none⟩) 65536 k)).run Tryz.prog w = .ok (.string ⟨(T.rowB m 0 65536).toArray⟩) w := by
 have := run_convert_bytes_back (P := Tryz.prog) w 69 9 5 ⟨g, 0, none⟩ k (T.rowB m 0 65536) Tryz.underlying69 Tryz.underlying5 Tryz.underlying9 (fun j hj => by
   rw [T.rowB_len] at hj
   rw [T.addr_add, h j hj]
   simp [T.rowB])
 rw [T.rowB_len] at this
 exact this
theorem dmemoryS_any (B : Nat) (W : World) (b : Nat) (c : Dc) (P : Pr) (s : Fm) (og op : Nat) (l : List Ob) (h : DIo B W b c P s og op l) :
   Calls Tryz.prog 27 #[.pointer (some ⟨b, 0, none⟩)] W fun x w' => x = .returned (.string ⟨(T.rowB s.m 0 65536).toArray⟩) ∧ Below W.heap.size W w' := by
 obtain ⟨g, k, c23, _, hc, _⟩ := h.mem
 have hs := dstring_of W g k s.m (fun i hi => (hc i hi).1)
 replace hc := Hz.mk hc
 replace h := Hz.mk h
 generalize (T.rowB s.m 0 65536).toArray = RR at *
 go_enter Tryz.func27, Tryz.ntmps27
 go_wp2_with fail
 go_ret
 exact ⟨rfl, Below.refl _ _⟩
end Z
end Go.Proofs.YthfphgjjieddjaaGreat
