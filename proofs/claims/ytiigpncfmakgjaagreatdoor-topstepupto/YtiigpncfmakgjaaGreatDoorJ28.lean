import Derived.Test.YtiigpncfmakgjaaGreatDoorJ27
namespace Go.Proofs.YtiigpncfmakgjaaGreatDoor
set_option maxRecDepth 100000
set_option maxHeartbeats 40000000
namespace C
open Go.RowKit
open T (Sep Ob Kp Mf TgIn boxOb Fm Tc Ed Vl Cp Bx tgOb mRow updV flt)

theorem made40_b (a A B C : Nat) (m : Int) (v u : Vl) (w : World) (hv : RgAt w a B v) (_hu : RgAt w a C u) (hg : v.g = false) :
   Calls Tryz.prog 92 #[.pointer (some ⟨a, 0, none⟩), insA 40 A B C m] w fun x w' => x = madeV (madeR 40 m v u) ∧ Bl w w' := by
 have er : madeR 40 m v u = .error (flt 1) := by unfold madeR; rw [hg]; rfl
 rw [er]
 clear er
 unfold insA
 have hH := Hz.mk (fun X g => held_badB a B v X (hv.bl g) hg)
 unfold pan at hH
 simp only [madeV, pan]
 try unfold Cp.val at *
 have A0 : At ((w.alloc (.cells #[.int .u8 40, .int .i64 A, .int .i64 B, .int .i64 C, .int .i64 m] 64)).alloc (.cells (List.toArray [Value.int .u64 0, .int .u64 0, .int .u64 0, .int .u8 0, .int .i64 0]) 35)) w.heap.size #[.int .u8 40, .int .i64 A, .int .i64 B, .int .i64 C, .int .i64 m] := (At.new w #[.int .u8 40, .int .i64 A, .int .i64 B, .int .i64 C, .int .i64 m] 64).alloc _
 have A1 : At ((w.alloc (.cells #[.int .u8 40, .int .i64 A, .int .i64 B, .int .i64 C, .int .i64 m] 64)).alloc (.cells (List.toArray [Value.int .u64 0, .int .u64 0, .int .u64 0, .int .u8 0, .int .i64 0]) 35)) (w.alloc (.cells #[.int .u8 40, .int .i64 A, .int .i64 B, .int .i64 C, .int .i64 m] 64)).heap.size (List.toArray [Value.int .u64 0, .int .u64 0, .int .u64 0, .int .u8 0, .int .i64 0]) := At.new (w.alloc (.cells #[.int .u8 40, .int .i64 A, .int .i64 B, .int .i64 C, .int .i64 m] 64)) (List.toArray [Value.int .u64 0, .int .u64 0, .int .u64 0, .int .u8 0, .int .i64 0]) 35
 have g0 : Bl w ((w.alloc (.cells #[.int .u8 40, .int .i64 A, .int .i64 B, .int .i64 C, .int .i64 m] 64)).alloc (.cells (List.toArray [Value.int .u64 0, .int .u64 0, .int .u64 0, .int .u8 0, .int .i64 0]) 35)) := ((Bl.refl w).alloc _).alloc _
 have hk : w.heap.size ≤ (w.alloc (.cells #[.int .u8 40, .int .i64 A, .int .i64 B, .int .i64 C, .int .i64 m] 64)).heap.size := by simp
 have hsz : (w.alloc (.cells #[.int .u8 40, .int .i64 A, .int .i64 B, .int .i64 C, .int .i64 m] 64)).heap.size = w.heap.size + 1 := by simp
 rw [hsz] at A1 hk
 replace A0 := Hz.mk A0
 replace A1 := Hz.mk A1
 replace hk := Hz.mk hk
 replace g0 := Hz.mk g0
 clear hsz hg
 go_enter Tryz.func92, Tryz.ntmps92
 go_upto_region 1 with fail
 refine wp_world (fun W => At W w.heap.size #[.int .u8 40, .int .i64 A, .int .i64 B, .int .i64 C, .int .i64 m] ∧ At W (w.heap.size + 1) (List.toArray [Value.int .u64 0, .int .u64 0, .int .u64 0, .int .u8 0, .int .i64 0]) ∧ Bl w W) ⟨A0.out, A1.out, g0.out⟩ ?_
 clear A0 A1 g0
 rintro W ⟨A0, A1, g0⟩
 have hn0 : Hz (w.heap.size ≠ w.heap.size + 1) := Hz.mk (by omega)
 generalize w.heap.size + 1 = kr at *
 have c2 : W.cell? ⟨w.heap.size, 2, none⟩ = some (.int .i64 B) := A0.2.1 2
 replace A0 := Hz.mk A0
 replace A1 := Hz.mk A1
 replace g0 := Hz.mk g0
 go_wp2_with (refine (hH.out _ g0.out).mono ?_; rintro r X1 ⟨rfl, e1⟩)
 exact ⟨rfl, rfl, g0.out.trans e1⟩
theorem made40_c (a A B C : Nat) (m : Int) (v u : Vl) (w : World) (hv : RgAt w a B v) (hu : RgAt w a C u) (hg : v.g = true) (hg2 : u.g = true) :
   Calls Tryz.prog 92 #[.pointer (some ⟨a, 0, none⟩), insA 40 A B C m] w fun x w' => x = madeV (madeR 40 m v u) ∧ Bl w w' := by
 have er : madeR 40 m v u = .error (flt 2) := by unfold madeR; rw [hg, hg2]; rfl
 rw [er]
 clear er
 unfold insA
 have hH := Hz.mk (fun X g => held_okB a B v X (hv.bl g) hg)
 have h2 := Hz.mk (fun X g => number_badB a C u X (hu.bl g) hg2)
 unfold pan at h2
 simp only [madeV, pan]
 try unfold Cp.val at *
 have A0 : At ((w.alloc (.cells #[.int .u8 40, .int .i64 A, .int .i64 B, .int .i64 C, .int .i64 m] 64)).alloc (.cells (List.toArray [Value.int .u64 0, .int .u64 0, .int .u64 0, .int .u8 0, .int .i64 0]) 35)) w.heap.size #[.int .u8 40, .int .i64 A, .int .i64 B, .int .i64 C, .int .i64 m] := (At.new w #[.int .u8 40, .int .i64 A, .int .i64 B, .int .i64 C, .int .i64 m] 64).alloc _
 have A1 : At ((w.alloc (.cells #[.int .u8 40, .int .i64 A, .int .i64 B, .int .i64 C, .int .i64 m] 64)).alloc (.cells (List.toArray [Value.int .u64 0, .int .u64 0, .int .u64 0, .int .u8 0, .int .i64 0]) 35)) (w.alloc (.cells #[.int .u8 40, .int .i64 A, .int .i64 B, .int .i64 C, .int .i64 m] 64)).heap.size (List.toArray [Value.int .u64 0, .int .u64 0, .int .u64 0, .int .u8 0, .int .i64 0]) := At.new (w.alloc (.cells #[.int .u8 40, .int .i64 A, .int .i64 B, .int .i64 C, .int .i64 m] 64)) (List.toArray [Value.int .u64 0, .int .u64 0, .int .u64 0, .int .u8 0, .int .i64 0]) 35
 have g0 : Bl w ((w.alloc (.cells #[.int .u8 40, .int .i64 A, .int .i64 B, .int .i64 C, .int .i64 m] 64)).alloc (.cells (List.toArray [Value.int .u64 0, .int .u64 0, .int .u64 0, .int .u8 0, .int .i64 0]) 35)) := ((Bl.refl w).alloc _).alloc _
 have hk : w.heap.size ≤ (w.alloc (.cells #[.int .u8 40, .int .i64 A, .int .i64 B, .int .i64 C, .int .i64 m] 64)).heap.size := by simp
 have hsz : (w.alloc (.cells #[.int .u8 40, .int .i64 A, .int .i64 B, .int .i64 C, .int .i64 m] 64)).heap.size = w.heap.size + 1 := by simp
 rw [hsz] at A1 hk
 replace A0 := Hz.mk A0
 replace A1 := Hz.mk A1
 replace hk := Hz.mk hk
 replace g0 := Hz.mk g0
 clear hsz hg
 go_enter Tryz.func92, Tryz.ntmps92
 go_upto_region 1 with fail
 refine wp_world (fun W => At W w.heap.size #[.int .u8 40, .int .i64 A, .int .i64 B, .int .i64 C, .int .i64 m] ∧ At W (w.heap.size + 1) (List.toArray [Value.int .u64 0, .int .u64 0, .int .u64 0, .int .u8 0, .int .i64 0]) ∧ Bl w W) ⟨A0.out, A1.out, g0.out⟩ ?_
 clear A0 A1 g0
 rintro W ⟨A0, A1, g0⟩
 have hn0 : Hz (w.heap.size ≠ w.heap.size + 1) := Hz.mk (by omega)
 generalize w.heap.size + 1 = kr at *
 have c2 : W.cell? ⟨w.heap.size, 2, none⟩ = some (.int .i64 B) := A0.2.1 2
 replace A0 := Hz.mk A0
 replace A1 := Hz.mk A1
 replace g0 := Hz.mk g0
 go_wp2_with fail
 refine (hH.out _ g0.out).mono ?_
 rintro r X1 ⟨rfl, e1⟩
 replace A0 := Hz.mk (e1.at_ A0.out)
 replace A1 := Hz.mk (e1.at_ A1.out)
 replace g0 := Hz.mk (g0.out.trans e1)
 clear e1 c2 hH
 have hn6 : Hz (X1.heap.size ≠ kr) := Hz.mk (by have := A1.out.1; omega)
 go_upto_region 2 with fail
 refine wp_world (fun W => At W w.heap.size #[.int .u8 40, .int .i64 A, .int .i64 B, .int .i64 C, .int .i64 m] ∧ At W kr (List.toArray [Value.int .u64 0, .int .u64 0, .int .u64 0, .int .u8 0, .int .i64 0]) ∧ At W X1.heap.size (List.toArray [Value.int .u64 v.c.b, .int .u64 v.c.e, .int .u64 v.c.c, .int .u8 v.c.p, .int .i64 v.c.s]) ∧ Bl w W) ⟨A0.out.alloc _, A1.out.alloc _, At.new X1 (List.toArray [Value.int .u64 v.c.b, .int .u64 v.c.e, .int .u64 v.c.c, .int .u8 v.c.p, .int .i64 v.c.s]) 35, g0.out.alloc _⟩ ?_
 clear A0 A1 g0
 rintro Y ⟨A0, A1, A2, g0⟩
 generalize X1.heap.size = k6 at *
 have c0 : Y.cell? ⟨w.heap.size, 0, none⟩ = some (.int .u8 40) := A0.2.1 0
 replace A0 := Hz.mk A0
 replace A1 := Hz.mk A1
 replace A2 := Hz.mk A2
 replace g0 := Hz.mk g0
 go_upto_region 4 with fail
 clear c0
 replace A0 := Hz.mk ((Bl.refl Y).drew.at_ A0.out)
 replace A1 := Hz.mk ((Bl.refl Y).drew.at_ A1.out)
 replace A2 := Hz.mk ((Bl.refl Y).drew.at_ A2.out)
 replace g0 := Hz.mk g0.out.drew
 refine wp_region_held_drew (S := (fun X => X.rangeAt k6 0 [Value.int .u64 v.c.b, .int .u64 v.c.e, .int .u64 v.c.c, .int .u8 v.c.p, .int .i64 v.c.s] ∧ X.cell? ⟨w.heap.size, 3, none⟩ = some (.int .i64 C))) (by kernel_rfl) (⟨fun j x q => by rw [Nat.zero_add]; exact (A2.out.2.1 j).trans (by simpa using q), A0.out.2.1 3⟩) (fun hHeld => ?_)
 refine xtk 0 rfl (yieldsIf_load_mid (by rfl) _ _ rfl _ _ rfl _ _ (fun _ h => h.1) Tryz.underlying35 rfl (by kernel_rfl)) ?_
 try simp only [xap]
 refine xso 1 ?_ rfl ?_ (xso 2 ?_ rfl ?_ (xso 3 ?_ rfl ?_ ?_))
 iterate 3 (rotate_left; focus ((try simp only [xap]); intro w hSw; (try dsimp only at hSw); go_simp; first | done | with_reducible rfl))
 try simp only [xap]
 refine xrd 4 rfl (fun K hK => ?_)
 go_simp
 go_wp2_with (refine (h2.out _ g0.out).mono ?_; rintro r X3 ⟨rfl, e3⟩)
 exact ⟨rfl, rfl, g0.out.trans e3⟩
theorem made40_ok (a A B C : Nat) (m : Int) (v u : Vl) (w : World) (hv : RgAt w a B v) (hu : RgAt w a C u) (hg : v.g = true) (hg2 : u.g = false) :
   Calls Tryz.prog 92 #[.pointer (some ⟨a, 0, none⟩), insA 40 A B C m] w fun x w' => x = madeV (madeR 40 m v u) ∧ Bl w w' := by
 have er : madeR 40 m v u = .ok (incF v.c u.n) := by unfold madeR; rw [hg, hg2]; rfl
 rw [er]
 clear er
 unfold insA
 have hH := Hz.mk (fun X g => held_okB a B v X (hv.bl g) hg)
 have h2 := Hz.mk (fun X g => number_okB a C u X (hu.bl g) hg2)
 have h3 := Hz.mk (fun X => cwInc v.c u.n X)
 show Calls _ _ _ _ fun x w' => x = .returned (CfV (incF v.c u.n)) ∧ Bl w w'
 generalize incF v.c u.n = rr at *
 obtain ⟨rc, rf⟩ := rr
 unfold CfV at h3 ⊢
 simp only at h3 ⊢
 try unfold Cp.val at *
 have A0 : At ((w.alloc (.cells #[.int .u8 40, .int .i64 A, .int .i64 B, .int .i64 C, .int .i64 m] 64)).alloc (.cells (List.toArray [Value.int .u64 0, .int .u64 0, .int .u64 0, .int .u8 0, .int .i64 0]) 35)) w.heap.size #[.int .u8 40, .int .i64 A, .int .i64 B, .int .i64 C, .int .i64 m] := (At.new w #[.int .u8 40, .int .i64 A, .int .i64 B, .int .i64 C, .int .i64 m] 64).alloc _
 have A1 : At ((w.alloc (.cells #[.int .u8 40, .int .i64 A, .int .i64 B, .int .i64 C, .int .i64 m] 64)).alloc (.cells (List.toArray [Value.int .u64 0, .int .u64 0, .int .u64 0, .int .u8 0, .int .i64 0]) 35)) (w.alloc (.cells #[.int .u8 40, .int .i64 A, .int .i64 B, .int .i64 C, .int .i64 m] 64)).heap.size (List.toArray [Value.int .u64 0, .int .u64 0, .int .u64 0, .int .u8 0, .int .i64 0]) := At.new (w.alloc (.cells #[.int .u8 40, .int .i64 A, .int .i64 B, .int .i64 C, .int .i64 m] 64)) (List.toArray [Value.int .u64 0, .int .u64 0, .int .u64 0, .int .u8 0, .int .i64 0]) 35
 have g0 : Bl w ((w.alloc (.cells #[.int .u8 40, .int .i64 A, .int .i64 B, .int .i64 C, .int .i64 m] 64)).alloc (.cells (List.toArray [Value.int .u64 0, .int .u64 0, .int .u64 0, .int .u8 0, .int .i64 0]) 35)) := ((Bl.refl w).alloc _).alloc _
 have hk : w.heap.size ≤ (w.alloc (.cells #[.int .u8 40, .int .i64 A, .int .i64 B, .int .i64 C, .int .i64 m] 64)).heap.size := by simp
 have hsz : (w.alloc (.cells #[.int .u8 40, .int .i64 A, .int .i64 B, .int .i64 C, .int .i64 m] 64)).heap.size = w.heap.size + 1 := by simp
 rw [hsz] at A1 hk
 replace A0 := Hz.mk A0
 replace A1 := Hz.mk A1
 replace hk := Hz.mk hk
 replace g0 := Hz.mk g0
 clear hsz hg
 go_enter Tryz.func92, Tryz.ntmps92
 go_upto_region 1 with fail
 refine wp_world (fun W => At W w.heap.size #[.int .u8 40, .int .i64 A, .int .i64 B, .int .i64 C, .int .i64 m] ∧ At W (w.heap.size + 1) (List.toArray [Value.int .u64 0, .int .u64 0, .int .u64 0, .int .u8 0, .int .i64 0]) ∧ Bl w W) ⟨A0.out, A1.out, g0.out⟩ ?_
 clear A0 A1 g0
 rintro W ⟨A0, A1, g0⟩
 have hn0 : Hz (w.heap.size ≠ w.heap.size + 1) := Hz.mk (by omega)
 generalize w.heap.size + 1 = kr at *
 have c2 : W.cell? ⟨w.heap.size, 2, none⟩ = some (.int .i64 B) := A0.2.1 2
 replace A0 := Hz.mk A0
 replace A1 := Hz.mk A1
 replace g0 := Hz.mk g0
 go_wp2_with fail
 refine (hH.out _ g0.out).mono ?_
 rintro r X1 ⟨rfl, e1⟩
 replace A0 := Hz.mk (e1.at_ A0.out)
 replace A1 := Hz.mk (e1.at_ A1.out)
 replace g0 := Hz.mk (g0.out.trans e1)
 clear e1 c2 hH
 have hn6 : Hz (X1.heap.size ≠ kr) := Hz.mk (by have := A1.out.1; omega)
 go_upto_region 2 with fail
 refine wp_world (fun W => At W w.heap.size #[.int .u8 40, .int .i64 A, .int .i64 B, .int .i64 C, .int .i64 m] ∧ At W kr (List.toArray [Value.int .u64 0, .int .u64 0, .int .u64 0, .int .u8 0, .int .i64 0]) ∧ At W X1.heap.size (List.toArray [Value.int .u64 v.c.b, .int .u64 v.c.e, .int .u64 v.c.c, .int .u8 v.c.p, .int .i64 v.c.s]) ∧ Bl w W) ⟨A0.out.alloc _, A1.out.alloc _, At.new X1 (List.toArray [Value.int .u64 v.c.b, .int .u64 v.c.e, .int .u64 v.c.c, .int .u8 v.c.p, .int .i64 v.c.s]) 35, g0.out.alloc _⟩ ?_
 clear A0 A1 g0
 rintro Y ⟨A0, A1, A2, g0⟩
 generalize X1.heap.size = k6 at *
 have c0 : Y.cell? ⟨w.heap.size, 0, none⟩ = some (.int .u8 40) := A0.2.1 0
 replace A0 := Hz.mk A0
 replace A1 := Hz.mk A1
 replace A2 := Hz.mk A2
 replace g0 := Hz.mk g0
 go_upto_region 4 with fail
 clear c0
 replace A0 := Hz.mk ((Bl.refl Y).drew.at_ A0.out)
 replace A1 := Hz.mk ((Bl.refl Y).drew.at_ A1.out)
 replace A2 := Hz.mk ((Bl.refl Y).drew.at_ A2.out)
 replace g0 := Hz.mk g0.out.drew
 refine wp_region_held_drew (S := (fun X => X.rangeAt k6 0 [Value.int .u64 v.c.b, .int .u64 v.c.e, .int .u64 v.c.c, .int .u8 v.c.p, .int .i64 v.c.s] ∧ X.cell? ⟨w.heap.size, 3, none⟩ = some (.int .i64 C))) (by kernel_rfl) (⟨fun j x q => by rw [Nat.zero_add]; exact (A2.out.2.1 j).trans (by simpa using q), A0.out.2.1 3⟩) (fun hHeld => ?_)
 refine xtk 0 rfl (yieldsIf_load_mid (by rfl) _ _ rfl _ _ rfl _ _ (fun _ h => h.1) Tryz.underlying35 rfl (by kernel_rfl)) ?_
 try simp only [xap]
 refine xso 1 ?_ rfl ?_ (xso 2 ?_ rfl ?_ (xso 3 ?_ rfl ?_ ?_))
 iterate 3 (rotate_left; focus ((try simp only [xap]); intro w hSw; (try dsimp only at hSw); go_simp; first | done | with_reducible rfl))
 try simp only [xap]
 refine xrd 4 rfl (fun K hK => ?_)
 go_simp
 go_wp2_with (refine (h2.out _ g0.out).mono ?_; rintro r X3 ⟨rfl, e3⟩; replace A0 := Hz.mk (e3.at_ A0.out); replace A1 := Hz.mk (e3.at_ A1.out); replace A2 := Hz.mk (e3.at_ A2.out); replace g0 := Hz.mk (g0.out.trans e3); clear e3 hHeld)
 refine hK.out _ _ ⟨fun j x q => by rw [Nat.zero_add]; exact (A2.out.2.1 j).trans (by simpa using q), A0.out.2.1 3⟩ (fun hHeld => ?_)
 clear hK K
 try simp only [xap]
 refine xrd 5 rfl (fun K hK => ?_)
 go_simp
 go_wp2_with (refine (h3.out _).mono ?_; rintro r X4 ⟨rfl, e4⟩; replace A0 := Hz.mk (e4.at_ A0.out); replace A1 := Hz.mk (e4.at_ A1.out); replace A2 := Hz.mk (e4.at_ A2.out); replace g0 := Hz.mk (g0.out.trans e4); clear e4 hHeld)
 refine hK.out _ _ ⟨fun j x q => by rw [Nat.zero_add]; exact (A2.out.2.1 j).trans (by simpa using q), A0.out.2.1 3⟩ (fun hHeld => ?_)
 clear hK K
 try simp only [xap]
 refine xso 6 ?_ rfl ?_ (xso 7 ?_ rfl ?_ ?_)
 iterate 2 (rotate_left; focus ((try simp only [xap]); intro w hSw; (try dsimp only at hSw); go_simp; first | done | with_reducible rfl))
 try simp only [xap]
 refine xrd 8 rfl (fun K hK => ?_)
 rw [if_pos (by rfl)]
 refine wp_store_mid _ _ _ rfl _ _ (List.toArray [Value.int .u64 rc.b, .int .u64 rc.e, .int .u64 rc.c, .int .u8 rc.p, .int .i64 rc.s]) rfl rfl (At.there A1.out 0 5 (by decide)) (by kernel_rfl) (by simp [Value.oneCell']) ?_
 refine hK.out _ _ ⟨fun j x q => by rw [Nat.zero_add]; exact ((A2.out.other hn6.out 0 _).2.1 j).trans (by simpa using q), (A0.out.other hn0.out 0 _).2.1 3⟩ (fun hHeld => ?_)
 clear hK K
 try simp only [Act.put]
 refine xso 9 ?_ rfl ?_ ?_
 rotate_left
 · intro w hSw; (try dsimp only at hSw); go_simp; first | done | with_reducible rfl
 try simp only [xap]
 refine xdn ?_ _
 clear hHeld
 have A9 := Hz.mk (At.setAll (cs := [Value.int .u64 0, .int .u64 0, .int .u64 0, .int .u8 0, .int .i64 0]) A1.out [Value.int .u64 rc.b, .int .u64 rc.e, .int .u64 rc.c, .int .u8 rc.p, .int .i64 rc.s] rfl)
 have g9 := Hz.mk (g0.out.sets kr hk.out [Value.int .u64 rc.b, .int .u64 rc.e, .int .u64 rc.c, .int .u8 rc.p, .int .i64 rc.s] 0)
 try simp only [Act.put]
 generalize World.setCells _ _ _ _ = V9 at *
 have ⟨_, q4, _⟩ := A9.out
 go_wp2_with fail
 simp [bodyPost, results, Tryz.results92, go_sem, q4]
 exact g9.out
theorem made41_b (a A B C : Nat) (m : Int) (v u : Vl) (w : World) (hv : RgAt w a B v) (_hu : RgAt w a C u) (hg : v.g = false) :
   Calls Tryz.prog 92 #[.pointer (some ⟨a, 0, none⟩), insA 41 A B C m] w fun x w' => x = madeV (madeR 41 m v u) ∧ Bl w w' := by
 have er : madeR 41 m v u = .error (flt 1) := by unfold madeR; rw [hg]; rfl
 rw [er]
 clear er
 unfold insA
 have hH := Hz.mk (fun X g => held_badB a B v X (hv.bl g) hg)
 unfold pan at hH
 simp only [madeV, pan]
 try unfold Cp.val at *
 have A0 : At ((w.alloc (.cells #[.int .u8 41, .int .i64 A, .int .i64 B, .int .i64 C, .int .i64 m] 64)).alloc (.cells (List.toArray [Value.int .u64 0, .int .u64 0, .int .u64 0, .int .u8 0, .int .i64 0]) 35)) w.heap.size #[.int .u8 41, .int .i64 A, .int .i64 B, .int .i64 C, .int .i64 m] := (At.new w #[.int .u8 41, .int .i64 A, .int .i64 B, .int .i64 C, .int .i64 m] 64).alloc _
 have A1 : At ((w.alloc (.cells #[.int .u8 41, .int .i64 A, .int .i64 B, .int .i64 C, .int .i64 m] 64)).alloc (.cells (List.toArray [Value.int .u64 0, .int .u64 0, .int .u64 0, .int .u8 0, .int .i64 0]) 35)) (w.alloc (.cells #[.int .u8 41, .int .i64 A, .int .i64 B, .int .i64 C, .int .i64 m] 64)).heap.size (List.toArray [Value.int .u64 0, .int .u64 0, .int .u64 0, .int .u8 0, .int .i64 0]) := At.new (w.alloc (.cells #[.int .u8 41, .int .i64 A, .int .i64 B, .int .i64 C, .int .i64 m] 64)) (List.toArray [Value.int .u64 0, .int .u64 0, .int .u64 0, .int .u8 0, .int .i64 0]) 35
 have g0 : Bl w ((w.alloc (.cells #[.int .u8 41, .int .i64 A, .int .i64 B, .int .i64 C, .int .i64 m] 64)).alloc (.cells (List.toArray [Value.int .u64 0, .int .u64 0, .int .u64 0, .int .u8 0, .int .i64 0]) 35)) := ((Bl.refl w).alloc _).alloc _
 have hk : w.heap.size ≤ (w.alloc (.cells #[.int .u8 41, .int .i64 A, .int .i64 B, .int .i64 C, .int .i64 m] 64)).heap.size := by simp
 have hsz : (w.alloc (.cells #[.int .u8 41, .int .i64 A, .int .i64 B, .int .i64 C, .int .i64 m] 64)).heap.size = w.heap.size + 1 := by simp
 rw [hsz] at A1 hk
 replace A0 := Hz.mk A0
 replace A1 := Hz.mk A1
 replace hk := Hz.mk hk
 replace g0 := Hz.mk g0
 clear hsz hg
 go_enter Tryz.func92, Tryz.ntmps92
 go_upto_region 1 with fail
 refine wp_world (fun W => At W w.heap.size #[.int .u8 41, .int .i64 A, .int .i64 B, .int .i64 C, .int .i64 m] ∧ At W (w.heap.size + 1) (List.toArray [Value.int .u64 0, .int .u64 0, .int .u64 0, .int .u8 0, .int .i64 0]) ∧ Bl w W) ⟨A0.out, A1.out, g0.out⟩ ?_
 clear A0 A1 g0
 rintro W ⟨A0, A1, g0⟩
 have hn0 : Hz (w.heap.size ≠ w.heap.size + 1) := Hz.mk (by omega)
 generalize w.heap.size + 1 = kr at *
 have c2 : W.cell? ⟨w.heap.size, 2, none⟩ = some (.int .i64 B) := A0.2.1 2
 replace A0 := Hz.mk A0
 replace A1 := Hz.mk A1
 replace g0 := Hz.mk g0
 go_wp2_with (refine (hH.out _ g0.out).mono ?_; rintro r X1 ⟨rfl, e1⟩)
 exact ⟨rfl, rfl, g0.out.trans e1⟩
theorem made41_ok (a A B C : Nat) (m : Int) (v u : Vl) (w : World) (hv : RgAt w a B v) (_hu : RgAt w a C u) (hg : v.g = true) :
   Calls Tryz.prog 92 #[.pointer (some ⟨a, 0, none⟩), insA 41 A B C m] w fun x w' => x = madeV (madeR 41 m v u) ∧ Bl w w' := by
 have er : madeR 41 m v u = .ok (incF v.c (u64W m)) := by unfold madeR; rw [hg]; rfl
 rw [er]
 clear er
 unfold insA
 have hH := Hz.mk (fun X g => held_okB a B v X (hv.bl g) hg)
 have h3 := Hz.mk (fun X => cwInc v.c (u64W m) X)
 unfold u64W at h3
 show Calls _ _ _ _ fun x w' => x = .returned (CfV (incF v.c (u64W m))) ∧ Bl w w'
 unfold u64W
 generalize incF v.c (IntKind.u64.wrap m) = rr at *
 obtain ⟨rc, rf⟩ := rr
 unfold CfV at h3 ⊢
 simp only at h3 ⊢
 try unfold Cp.val at *
 have A0 : At ((w.alloc (.cells #[.int .u8 41, .int .i64 A, .int .i64 B, .int .i64 C, .int .i64 m] 64)).alloc (.cells (List.toArray [Value.int .u64 0, .int .u64 0, .int .u64 0, .int .u8 0, .int .i64 0]) 35)) w.heap.size #[.int .u8 41, .int .i64 A, .int .i64 B, .int .i64 C, .int .i64 m] := (At.new w #[.int .u8 41, .int .i64 A, .int .i64 B, .int .i64 C, .int .i64 m] 64).alloc _
 have A1 : At ((w.alloc (.cells #[.int .u8 41, .int .i64 A, .int .i64 B, .int .i64 C, .int .i64 m] 64)).alloc (.cells (List.toArray [Value.int .u64 0, .int .u64 0, .int .u64 0, .int .u8 0, .int .i64 0]) 35)) (w.alloc (.cells #[.int .u8 41, .int .i64 A, .int .i64 B, .int .i64 C, .int .i64 m] 64)).heap.size (List.toArray [Value.int .u64 0, .int .u64 0, .int .u64 0, .int .u8 0, .int .i64 0]) := At.new (w.alloc (.cells #[.int .u8 41, .int .i64 A, .int .i64 B, .int .i64 C, .int .i64 m] 64)) (List.toArray [Value.int .u64 0, .int .u64 0, .int .u64 0, .int .u8 0, .int .i64 0]) 35
 have g0 : Bl w ((w.alloc (.cells #[.int .u8 41, .int .i64 A, .int .i64 B, .int .i64 C, .int .i64 m] 64)).alloc (.cells (List.toArray [Value.int .u64 0, .int .u64 0, .int .u64 0, .int .u8 0, .int .i64 0]) 35)) := ((Bl.refl w).alloc _).alloc _
 have hk : w.heap.size ≤ (w.alloc (.cells #[.int .u8 41, .int .i64 A, .int .i64 B, .int .i64 C, .int .i64 m] 64)).heap.size := by simp
 have hsz : (w.alloc (.cells #[.int .u8 41, .int .i64 A, .int .i64 B, .int .i64 C, .int .i64 m] 64)).heap.size = w.heap.size + 1 := by simp
 rw [hsz] at A1 hk
 replace A0 := Hz.mk A0
 replace A1 := Hz.mk A1
 replace hk := Hz.mk hk
 replace g0 := Hz.mk g0
 clear hsz hg
 go_enter Tryz.func92, Tryz.ntmps92
 go_upto_region 1 with fail
 refine wp_world (fun W => At W w.heap.size #[.int .u8 41, .int .i64 A, .int .i64 B, .int .i64 C, .int .i64 m] ∧ At W (w.heap.size + 1) (List.toArray [Value.int .u64 0, .int .u64 0, .int .u64 0, .int .u8 0, .int .i64 0]) ∧ Bl w W) ⟨A0.out, A1.out, g0.out⟩ ?_
 clear A0 A1 g0
 rintro W ⟨A0, A1, g0⟩
 have hn0 : Hz (w.heap.size ≠ w.heap.size + 1) := Hz.mk (by omega)
 generalize w.heap.size + 1 = kr at *
 have c2 : W.cell? ⟨w.heap.size, 2, none⟩ = some (.int .i64 B) := A0.2.1 2
 replace A0 := Hz.mk A0
 replace A1 := Hz.mk A1
 replace g0 := Hz.mk g0
 go_wp2_with fail
 refine (hH.out _ g0.out).mono ?_
 rintro r X1 ⟨rfl, e1⟩
 replace A0 := Hz.mk (e1.at_ A0.out)
 replace A1 := Hz.mk (e1.at_ A1.out)
 replace g0 := Hz.mk (g0.out.trans e1)
 clear e1 c2 hH
 have hn6 : Hz (X1.heap.size ≠ kr) := Hz.mk (by have := A1.out.1; omega)
 go_upto_region 2 with fail
 refine wp_world (fun W => At W w.heap.size #[.int .u8 41, .int .i64 A, .int .i64 B, .int .i64 C, .int .i64 m] ∧ At W kr (List.toArray [Value.int .u64 0, .int .u64 0, .int .u64 0, .int .u8 0, .int .i64 0]) ∧ At W X1.heap.size (List.toArray [Value.int .u64 v.c.b, .int .u64 v.c.e, .int .u64 v.c.c, .int .u8 v.c.p, .int .i64 v.c.s]) ∧ Bl w W) ⟨A0.out.alloc _, A1.out.alloc _, At.new X1 (List.toArray [Value.int .u64 v.c.b, .int .u64 v.c.e, .int .u64 v.c.c, .int .u8 v.c.p, .int .i64 v.c.s]) 35, g0.out.alloc _⟩ ?_
 clear A0 A1 g0
 rintro Y ⟨A0, A1, A2, g0⟩
 generalize X1.heap.size = k6 at *
 have c0 : Y.cell? ⟨w.heap.size, 0, none⟩ = some (.int .u8 41) := A0.2.1 0
 replace A0 := Hz.mk A0
 replace A1 := Hz.mk A1
 replace A2 := Hz.mk A2
 replace g0 := Hz.mk g0
 go_upto_region 6 with fail
 clear c0
 have ⟨_, p0, _⟩ := A0.out
 have ⟨_, p2, _⟩ := A2.out
 go_wp2_with fail
 refine (h3.out _).mono ?_
 rintro r X4 ⟨rfl, e4⟩
 replace A0 := Hz.mk (e4.at_ A0.out); replace A1 := Hz.mk (e4.at_ A1.out); replace A2 := Hz.mk (e4.at_ A2.out); replace g0 := Hz.mk (g0.out.trans e4)
 clear e4 p0 p2
 have ⟨_, p1, f1⟩ := A1.out
 have l1 := A1.out.1
 go_wp2_with fail
 have A9 := At.setAll (cs := [Value.int .u64 0, .int .u64 0, .int .u64 0, .int .u8 0, .int .i64 0]) A1.out [Value.int .u64 rc.b, .int .u64 rc.e, .int .u64 rc.c, .int .u8 rc.p, .int .i64 rc.s] rfl
 have g9 := g0.out.sets kr hk.out [Value.int .u64 rc.b, .int .u64 rc.e, .int .u64 rc.c, .int .u8 rc.p, .int .i64 rc.s] 0
 have ⟨_, q4, _⟩ := A9
 simp only [World.setCells] at q4 g9
 simp [bodyPost, results, Tryz.results92, go_sem, q4]
 exact g9
end C
end Go.Proofs.YtiigpncfmakgjaaGreatDoor


namespace Go.Proofs.YtiigpncfmakgjaaGreatDoor
set_option maxRecDepth 100000
set_option maxHeartbeats 40000000
namespace C
open Go.RowKit
open T (Sep Ob Kp Mf TgIn boxOb Fm Tc Ed Vl Cp Bx tgOb mRow updV flt)

theorem made42_b (a A B C : Nat) (m : Int) (v u : Vl) (w : World) (hv : RgAt w a B v) (_hu : RgAt w a C u) (hg : v.g = false) :
   Calls Tryz.prog 92 #[.pointer (some ⟨a, 0, none⟩), insA 42 A B C m] w fun x w' => x = madeV (madeR 42 m v u) ∧ Bl w w' := by
 have er : madeR 42 m v u = .error (flt 1) := by unfold madeR; rw [hg]; rfl
 rw [er]
 clear er
 unfold insA
 have hH := Hz.mk (fun X g => held_badB a B v X (hv.bl g) hg)
 unfold pan at hH
 simp only [madeV, pan]
 try unfold Cp.val at *
 have A0 : At ((w.alloc (.cells #[.int .u8 42, .int .i64 A, .int .i64 B, .int .i64 C, .int .i64 m] 64)).alloc (.cells (List.toArray [Value.int .u64 0, .int .u64 0, .int .u64 0, .int .u8 0, .int .i64 0]) 35)) w.heap.size #[.int .u8 42, .int .i64 A, .int .i64 B, .int .i64 C, .int .i64 m] := (At.new w #[.int .u8 42, .int .i64 A, .int .i64 B, .int .i64 C, .int .i64 m] 64).alloc _
 have A1 : At ((w.alloc (.cells #[.int .u8 42, .int .i64 A, .int .i64 B, .int .i64 C, .int .i64 m] 64)).alloc (.cells (List.toArray [Value.int .u64 0, .int .u64 0, .int .u64 0, .int .u8 0, .int .i64 0]) 35)) (w.alloc (.cells #[.int .u8 42, .int .i64 A, .int .i64 B, .int .i64 C, .int .i64 m] 64)).heap.size (List.toArray [Value.int .u64 0, .int .u64 0, .int .u64 0, .int .u8 0, .int .i64 0]) := At.new (w.alloc (.cells #[.int .u8 42, .int .i64 A, .int .i64 B, .int .i64 C, .int .i64 m] 64)) (List.toArray [Value.int .u64 0, .int .u64 0, .int .u64 0, .int .u8 0, .int .i64 0]) 35
 have g0 : Bl w ((w.alloc (.cells #[.int .u8 42, .int .i64 A, .int .i64 B, .int .i64 C, .int .i64 m] 64)).alloc (.cells (List.toArray [Value.int .u64 0, .int .u64 0, .int .u64 0, .int .u8 0, .int .i64 0]) 35)) := ((Bl.refl w).alloc _).alloc _
 have hk : w.heap.size ≤ (w.alloc (.cells #[.int .u8 42, .int .i64 A, .int .i64 B, .int .i64 C, .int .i64 m] 64)).heap.size := by simp
 have hsz : (w.alloc (.cells #[.int .u8 42, .int .i64 A, .int .i64 B, .int .i64 C, .int .i64 m] 64)).heap.size = w.heap.size + 1 := by simp
 rw [hsz] at A1 hk
 replace A0 := Hz.mk A0
 replace A1 := Hz.mk A1
 replace hk := Hz.mk hk
 replace g0 := Hz.mk g0
 clear hsz hg
 go_enter Tryz.func92, Tryz.ntmps92
 go_upto_region 1 with fail
 refine wp_world (fun W => At W w.heap.size #[.int .u8 42, .int .i64 A, .int .i64 B, .int .i64 C, .int .i64 m] ∧ At W (w.heap.size + 1) (List.toArray [Value.int .u64 0, .int .u64 0, .int .u64 0, .int .u8 0, .int .i64 0]) ∧ Bl w W) ⟨A0.out, A1.out, g0.out⟩ ?_
 clear A0 A1 g0
 rintro W ⟨A0, A1, g0⟩
 have hn0 : Hz (w.heap.size ≠ w.heap.size + 1) := Hz.mk (by omega)
 generalize w.heap.size + 1 = kr at *
 have c2 : W.cell? ⟨w.heap.size, 2, none⟩ = some (.int .i64 B) := A0.2.1 2
 replace A0 := Hz.mk A0
 replace A1 := Hz.mk A1
 replace g0 := Hz.mk g0
 go_wp2_with (refine (hH.out _ g0.out).mono ?_; rintro r X1 ⟨rfl, e1⟩)
 exact ⟨rfl, rfl, g0.out.trans e1⟩
theorem made42_c (a A B C : Nat) (m : Int) (v u : Vl) (w : World) (hv : RgAt w a B v) (hu : RgAt w a C u) (hg : v.g = true) (hg2 : u.g = true) :
   Calls Tryz.prog 92 #[.pointer (some ⟨a, 0, none⟩), insA 42 A B C m] w fun x w' => x = madeV (madeR 42 m v u) ∧ Bl w w' := by
 have er : madeR 42 m v u = .error (flt 2) := by unfold madeR; rw [hg, hg2]; rfl
 rw [er]
 clear er
 unfold insA
 have hH := Hz.mk (fun X g => held_okB a B v X (hv.bl g) hg)
 have h2 := Hz.mk (fun X g => number_badB a C u X (hu.bl g) hg2)
 unfold pan at h2
 simp only [madeV, pan]
 try unfold Cp.val at *
 have A0 : At ((w.alloc (.cells #[.int .u8 42, .int .i64 A, .int .i64 B, .int .i64 C, .int .i64 m] 64)).alloc (.cells (List.toArray [Value.int .u64 0, .int .u64 0, .int .u64 0, .int .u8 0, .int .i64 0]) 35)) w.heap.size #[.int .u8 42, .int .i64 A, .int .i64 B, .int .i64 C, .int .i64 m] := (At.new w #[.int .u8 42, .int .i64 A, .int .i64 B, .int .i64 C, .int .i64 m] 64).alloc _
 have A1 : At ((w.alloc (.cells #[.int .u8 42, .int .i64 A, .int .i64 B, .int .i64 C, .int .i64 m] 64)).alloc (.cells (List.toArray [Value.int .u64 0, .int .u64 0, .int .u64 0, .int .u8 0, .int .i64 0]) 35)) (w.alloc (.cells #[.int .u8 42, .int .i64 A, .int .i64 B, .int .i64 C, .int .i64 m] 64)).heap.size (List.toArray [Value.int .u64 0, .int .u64 0, .int .u64 0, .int .u8 0, .int .i64 0]) := At.new (w.alloc (.cells #[.int .u8 42, .int .i64 A, .int .i64 B, .int .i64 C, .int .i64 m] 64)) (List.toArray [Value.int .u64 0, .int .u64 0, .int .u64 0, .int .u8 0, .int .i64 0]) 35
 have g0 : Bl w ((w.alloc (.cells #[.int .u8 42, .int .i64 A, .int .i64 B, .int .i64 C, .int .i64 m] 64)).alloc (.cells (List.toArray [Value.int .u64 0, .int .u64 0, .int .u64 0, .int .u8 0, .int .i64 0]) 35)) := ((Bl.refl w).alloc _).alloc _
 have hk : w.heap.size ≤ (w.alloc (.cells #[.int .u8 42, .int .i64 A, .int .i64 B, .int .i64 C, .int .i64 m] 64)).heap.size := by simp
 have hsz : (w.alloc (.cells #[.int .u8 42, .int .i64 A, .int .i64 B, .int .i64 C, .int .i64 m] 64)).heap.size = w.heap.size + 1 := by simp
 rw [hsz] at A1 hk
 replace A0 := Hz.mk A0
 replace A1 := Hz.mk A1
 replace hk := Hz.mk hk
 replace g0 := Hz.mk g0
 clear hsz hg
 go_enter Tryz.func92, Tryz.ntmps92
 go_upto_region 1 with fail
 refine wp_world (fun W => At W w.heap.size #[.int .u8 42, .int .i64 A, .int .i64 B, .int .i64 C, .int .i64 m] ∧ At W (w.heap.size + 1) (List.toArray [Value.int .u64 0, .int .u64 0, .int .u64 0, .int .u8 0, .int .i64 0]) ∧ Bl w W) ⟨A0.out, A1.out, g0.out⟩ ?_
 clear A0 A1 g0
 rintro W ⟨A0, A1, g0⟩
 have hn0 : Hz (w.heap.size ≠ w.heap.size + 1) := Hz.mk (by omega)
 generalize w.heap.size + 1 = kr at *
 have c2 : W.cell? ⟨w.heap.size, 2, none⟩ = some (.int .i64 B) := A0.2.1 2
 replace A0 := Hz.mk A0
 replace A1 := Hz.mk A1
 replace g0 := Hz.mk g0
 go_wp2_with fail
 refine (hH.out _ g0.out).mono ?_
 rintro r X1 ⟨rfl, e1⟩
 replace A0 := Hz.mk (e1.at_ A0.out)
 replace A1 := Hz.mk (e1.at_ A1.out)
 replace g0 := Hz.mk (g0.out.trans e1)
 clear e1 c2 hH
 have hn6 : Hz (X1.heap.size ≠ kr) := Hz.mk (by have := A1.out.1; omega)
 go_upto_region 2 with fail
 refine wp_world (fun W => At W w.heap.size #[.int .u8 42, .int .i64 A, .int .i64 B, .int .i64 C, .int .i64 m] ∧ At W kr (List.toArray [Value.int .u64 0, .int .u64 0, .int .u64 0, .int .u8 0, .int .i64 0]) ∧ At W X1.heap.size (List.toArray [Value.int .u64 v.c.b, .int .u64 v.c.e, .int .u64 v.c.c, .int .u8 v.c.p, .int .i64 v.c.s]) ∧ Bl w W) ⟨A0.out.alloc _, A1.out.alloc _, At.new X1 (List.toArray [Value.int .u64 v.c.b, .int .u64 v.c.e, .int .u64 v.c.c, .int .u8 v.c.p, .int .i64 v.c.s]) 35, g0.out.alloc _⟩ ?_
 clear A0 A1 g0
 rintro Y ⟨A0, A1, A2, g0⟩
 generalize X1.heap.size = k6 at *
 have c0 : Y.cell? ⟨w.heap.size, 0, none⟩ = some (.int .u8 42) := A0.2.1 0
 replace A0 := Hz.mk A0
 replace A1 := Hz.mk A1
 replace A2 := Hz.mk A2
 replace g0 := Hz.mk g0
 go_upto_region 8 with fail
 clear c0
 replace A0 := Hz.mk ((Bl.refl Y).drew.at_ A0.out)
 replace A1 := Hz.mk ((Bl.refl Y).drew.at_ A1.out)
 replace A2 := Hz.mk ((Bl.refl Y).drew.at_ A2.out)
 replace g0 := Hz.mk g0.out.drew
 refine wp_region_held_drew (S := (fun X => X.rangeAt k6 0 [Value.int .u64 v.c.b, .int .u64 v.c.e, .int .u64 v.c.c, .int .u8 v.c.p, .int .i64 v.c.s] ∧ X.cell? ⟨w.heap.size, 3, none⟩ = some (.int .i64 C))) (by kernel_rfl) (⟨fun j x q => by rw [Nat.zero_add]; exact (A2.out.2.1 j).trans (by simpa using q), A0.out.2.1 3⟩) (fun hHeld => ?_)
 refine xtk 0 rfl (yieldsIf_load_mid (by rfl) _ _ rfl _ _ rfl _ _ (fun _ h => h.1) Tryz.underlying35 rfl (by kernel_rfl)) ?_
 try simp only [xap]
 refine xso 1 ?_ rfl ?_ (xso 2 ?_ rfl ?_ (xso 3 ?_ rfl ?_ ?_))
 iterate 3 (rotate_left; focus ((try simp only [xap]); intro w hSw; (try dsimp only at hSw); go_simp; first | done | with_reducible rfl))
 try simp only [xap]
 refine xrd 4 rfl (fun K hK => ?_)
 go_simp
 go_wp2_with (refine (h2.out _ g0.out).mono ?_; rintro r X3 ⟨rfl, e3⟩)
 exact ⟨rfl, rfl, g0.out.trans e3⟩
theorem made42_ok (a A B C : Nat) (m : Int) (v u : Vl) (w : World) (hv : RgAt w a B v) (hu : RgAt w a C u) (hg : v.g = true) (hg2 : u.g = false) :
   Calls Tryz.prog 92 #[.pointer (some ⟨a, 0, none⟩), insA 42 A B C m] w fun x w' => x = madeV (madeR 42 m v u) ∧ Bl w w' := by
 have er : madeR 42 m v u = .ok (setF v.c u.n) := by unfold madeR; rw [hg, hg2]; rfl
 rw [er]
 clear er
 unfold insA
 have hH := Hz.mk (fun X g => held_okB a B v X (hv.bl g) hg)
 have h2 := Hz.mk (fun X g => number_okB a C u X (hu.bl g) hg2)
 have h3 := Hz.mk (fun X => cwSet v.c u.n X)
 show Calls _ _ _ _ fun x w' => x = .returned (CfV (setF v.c u.n)) ∧ Bl w w'
 generalize setF v.c u.n = rr at *
 obtain ⟨rc, rf⟩ := rr
 unfold CfV at h3 ⊢
 simp only at h3 ⊢
 try unfold Cp.val at *
 have A0 : At ((w.alloc (.cells #[.int .u8 42, .int .i64 A, .int .i64 B, .int .i64 C, .int .i64 m] 64)).alloc (.cells (List.toArray [Value.int .u64 0, .int .u64 0, .int .u64 0, .int .u8 0, .int .i64 0]) 35)) w.heap.size #[.int .u8 42, .int .i64 A, .int .i64 B, .int .i64 C, .int .i64 m] := (At.new w #[.int .u8 42, .int .i64 A, .int .i64 B, .int .i64 C, .int .i64 m] 64).alloc _
 have A1 : At ((w.alloc (.cells #[.int .u8 42, .int .i64 A, .int .i64 B, .int .i64 C, .int .i64 m] 64)).alloc (.cells (List.toArray [Value.int .u64 0, .int .u64 0, .int .u64 0, .int .u8 0, .int .i64 0]) 35)) (w.alloc (.cells #[.int .u8 42, .int .i64 A, .int .i64 B, .int .i64 C, .int .i64 m] 64)).heap.size (List.toArray [Value.int .u64 0, .int .u64 0, .int .u64 0, .int .u8 0, .int .i64 0]) := At.new (w.alloc (.cells #[.int .u8 42, .int .i64 A, .int .i64 B, .int .i64 C, .int .i64 m] 64)) (List.toArray [Value.int .u64 0, .int .u64 0, .int .u64 0, .int .u8 0, .int .i64 0]) 35
 have g0 : Bl w ((w.alloc (.cells #[.int .u8 42, .int .i64 A, .int .i64 B, .int .i64 C, .int .i64 m] 64)).alloc (.cells (List.toArray [Value.int .u64 0, .int .u64 0, .int .u64 0, .int .u8 0, .int .i64 0]) 35)) := ((Bl.refl w).alloc _).alloc _
 have hk : w.heap.size ≤ (w.alloc (.cells #[.int .u8 42, .int .i64 A, .int .i64 B, .int .i64 C, .int .i64 m] 64)).heap.size := by simp
 have hsz : (w.alloc (.cells #[.int .u8 42, .int .i64 A, .int .i64 B, .int .i64 C, .int .i64 m] 64)).heap.size = w.heap.size + 1 := by simp
 rw [hsz] at A1 hk
 replace A0 := Hz.mk A0
 replace A1 := Hz.mk A1
 replace hk := Hz.mk hk
 replace g0 := Hz.mk g0
 clear hsz hg
 go_enter Tryz.func92, Tryz.ntmps92
 go_upto_region 1 with fail
 refine wp_world (fun W => At W w.heap.size #[.int .u8 42, .int .i64 A, .int .i64 B, .int .i64 C, .int .i64 m] ∧ At W (w.heap.size + 1) (List.toArray [Value.int .u64 0, .int .u64 0, .int .u64 0, .int .u8 0, .int .i64 0]) ∧ Bl w W) ⟨A0.out, A1.out, g0.out⟩ ?_
 clear A0 A1 g0
 rintro W ⟨A0, A1, g0⟩
 have hn0 : Hz (w.heap.size ≠ w.heap.size + 1) := Hz.mk (by omega)
 generalize w.heap.size + 1 = kr at *
 have c2 : W.cell? ⟨w.heap.size, 2, none⟩ = some (.int .i64 B) := A0.2.1 2
 replace A0 := Hz.mk A0
 replace A1 := Hz.mk A1
 replace g0 := Hz.mk g0
 go_wp2_with fail
 refine (hH.out _ g0.out).mono ?_
 rintro r X1 ⟨rfl, e1⟩
 replace A0 := Hz.mk (e1.at_ A0.out)
 replace A1 := Hz.mk (e1.at_ A1.out)
 replace g0 := Hz.mk (g0.out.trans e1)
 clear e1 c2 hH
 have hn6 : Hz (X1.heap.size ≠ kr) := Hz.mk (by have := A1.out.1; omega)
 go_upto_region 2 with fail
 refine wp_world (fun W => At W w.heap.size #[.int .u8 42, .int .i64 A, .int .i64 B, .int .i64 C, .int .i64 m] ∧ At W kr (List.toArray [Value.int .u64 0, .int .u64 0, .int .u64 0, .int .u8 0, .int .i64 0]) ∧ At W X1.heap.size (List.toArray [Value.int .u64 v.c.b, .int .u64 v.c.e, .int .u64 v.c.c, .int .u8 v.c.p, .int .i64 v.c.s]) ∧ Bl w W) ⟨A0.out.alloc _, A1.out.alloc _, At.new X1 (List.toArray [Value.int .u64 v.c.b, .int .u64 v.c.e, .int .u64 v.c.c, .int .u8 v.c.p, .int .i64 v.c.s]) 35, g0.out.alloc _⟩ ?_
 clear A0 A1 g0
 rintro Y ⟨A0, A1, A2, g0⟩
 generalize X1.heap.size = k6 at *
 have c0 : Y.cell? ⟨w.heap.size, 0, none⟩ = some (.int .u8 42) := A0.2.1 0
 replace A0 := Hz.mk A0
 replace A1 := Hz.mk A1
 replace A2 := Hz.mk A2
 replace g0 := Hz.mk g0
 go_upto_region 8 with fail
 clear c0
 replace A0 := Hz.mk ((Bl.refl Y).drew.at_ A0.out)
 replace A1 := Hz.mk ((Bl.refl Y).drew.at_ A1.out)
 replace A2 := Hz.mk ((Bl.refl Y).drew.at_ A2.out)
 replace g0 := Hz.mk g0.out.drew
 refine wp_region_held_drew (S := (fun X => X.rangeAt k6 0 [Value.int .u64 v.c.b, .int .u64 v.c.e, .int .u64 v.c.c, .int .u8 v.c.p, .int .i64 v.c.s] ∧ X.cell? ⟨w.heap.size, 3, none⟩ = some (.int .i64 C))) (by kernel_rfl) (⟨fun j x q => by rw [Nat.zero_add]; exact (A2.out.2.1 j).trans (by simpa using q), A0.out.2.1 3⟩) (fun hHeld => ?_)
 refine xtk 0 rfl (yieldsIf_load_mid (by rfl) _ _ rfl _ _ rfl _ _ (fun _ h => h.1) Tryz.underlying35 rfl (by kernel_rfl)) ?_
 try simp only [xap]
 refine xso 1 ?_ rfl ?_ (xso 2 ?_ rfl ?_ (xso 3 ?_ rfl ?_ ?_))
 iterate 3 (rotate_left; focus ((try simp only [xap]); intro w hSw; (try dsimp only at hSw); go_simp; first | done | with_reducible rfl))
 try simp only [xap]
 refine xrd 4 rfl (fun K hK => ?_)
 go_simp
 go_wp2_with (refine (h2.out _ g0.out).mono ?_; rintro r X3 ⟨rfl, e3⟩; replace A0 := Hz.mk (e3.at_ A0.out); replace A1 := Hz.mk (e3.at_ A1.out); replace A2 := Hz.mk (e3.at_ A2.out); replace g0 := Hz.mk (g0.out.trans e3); clear e3 hHeld)
 refine hK.out _ _ ⟨fun j x q => by rw [Nat.zero_add]; exact (A2.out.2.1 j).trans (by simpa using q), A0.out.2.1 3⟩ (fun hHeld => ?_)
 clear hK K
 try simp only [xap]
 refine xrd 5 rfl (fun K hK => ?_)
 go_simp
 go_wp2_with (refine (h3.out _).mono ?_; rintro r X4 ⟨rfl, e4⟩; replace A0 := Hz.mk (e4.at_ A0.out); replace A1 := Hz.mk (e4.at_ A1.out); replace A2 := Hz.mk (e4.at_ A2.out); replace g0 := Hz.mk (g0.out.trans e4); clear e4 hHeld)
 refine hK.out _ _ ⟨fun j x q => by rw [Nat.zero_add]; exact (A2.out.2.1 j).trans (by simpa using q), A0.out.2.1 3⟩ (fun hHeld => ?_)
 clear hK K
 try simp only [xap]
 refine xso 6 ?_ rfl ?_ (xso 7 ?_ rfl ?_ ?_)
 iterate 2 (rotate_left; focus ((try simp only [xap]); intro w hSw; (try dsimp only at hSw); go_simp; first | done | with_reducible rfl))
 try simp only [xap]
 refine xrd 8 rfl (fun K hK => ?_)
 rw [if_pos (by rfl)]
 refine wp_store_mid _ _ _ rfl _ _ (List.toArray [Value.int .u64 rc.b, .int .u64 rc.e, .int .u64 rc.c, .int .u8 rc.p, .int .i64 rc.s]) rfl rfl (At.there A1.out 0 5 (by decide)) (by kernel_rfl) (by simp [Value.oneCell']) ?_
 refine hK.out _ _ ⟨fun j x q => by rw [Nat.zero_add]; exact ((A2.out.other hn6.out 0 _).2.1 j).trans (by simpa using q), (A0.out.other hn0.out 0 _).2.1 3⟩ (fun hHeld => ?_)
 clear hK K
 try simp only [Act.put]
 refine xso 9 ?_ rfl ?_ ?_
 rotate_left
 · intro w hSw; (try dsimp only at hSw); go_simp; first | done | with_reducible rfl
 try simp only [xap]
 refine xdn ?_ _
 clear hHeld
 have A9 := Hz.mk (At.setAll (cs := [Value.int .u64 0, .int .u64 0, .int .u64 0, .int .u8 0, .int .i64 0]) A1.out [Value.int .u64 rc.b, .int .u64 rc.e, .int .u64 rc.c, .int .u8 rc.p, .int .i64 rc.s] rfl)
 have g9 := Hz.mk (g0.out.sets kr hk.out [Value.int .u64 rc.b, .int .u64 rc.e, .int .u64 rc.c, .int .u8 rc.p, .int .i64 rc.s] 0)
 try simp only [Act.put]
 generalize World.setCells _ _ _ _ = V9 at *
 have ⟨_, q4, _⟩ := A9.out
 go_wp2_with fail
 simp [bodyPost, results, Tryz.results92, go_sem, q4]
 exact g9.out
theorem made43_b (a A B C : Nat) (m : Int) (v u : Vl) (w : World) (hv : RgAt w a B v) (_hu : RgAt w a C u) (hg : v.g = false) :
   Calls Tryz.prog 92 #[.pointer (some ⟨a, 0, none⟩), insA 43 A B C m] w fun x w' => x = madeV (madeR 43 m v u) ∧ Bl w w' := by
 have er : madeR 43 m v u = .error (flt 1) := by unfold madeR; rw [hg]; rfl
 rw [er]
 clear er
 unfold insA
 have hH := Hz.mk (fun X g => held_badB a B v X (hv.bl g) hg)
 unfold pan at hH
 simp only [madeV, pan]
 try unfold Cp.val at *
 have A0 : At ((w.alloc (.cells #[.int .u8 43, .int .i64 A, .int .i64 B, .int .i64 C, .int .i64 m] 64)).alloc (.cells (List.toArray [Value.int .u64 0, .int .u64 0, .int .u64 0, .int .u8 0, .int .i64 0]) 35)) w.heap.size #[.int .u8 43, .int .i64 A, .int .i64 B, .int .i64 C, .int .i64 m] := (At.new w #[.int .u8 43, .int .i64 A, .int .i64 B, .int .i64 C, .int .i64 m] 64).alloc _
 have A1 : At ((w.alloc (.cells #[.int .u8 43, .int .i64 A, .int .i64 B, .int .i64 C, .int .i64 m] 64)).alloc (.cells (List.toArray [Value.int .u64 0, .int .u64 0, .int .u64 0, .int .u8 0, .int .i64 0]) 35)) (w.alloc (.cells #[.int .u8 43, .int .i64 A, .int .i64 B, .int .i64 C, .int .i64 m] 64)).heap.size (List.toArray [Value.int .u64 0, .int .u64 0, .int .u64 0, .int .u8 0, .int .i64 0]) := At.new (w.alloc (.cells #[.int .u8 43, .int .i64 A, .int .i64 B, .int .i64 C, .int .i64 m] 64)) (List.toArray [Value.int .u64 0, .int .u64 0, .int .u64 0, .int .u8 0, .int .i64 0]) 35
 have g0 : Bl w ((w.alloc (.cells #[.int .u8 43, .int .i64 A, .int .i64 B, .int .i64 C, .int .i64 m] 64)).alloc (.cells (List.toArray [Value.int .u64 0, .int .u64 0, .int .u64 0, .int .u8 0, .int .i64 0]) 35)) := ((Bl.refl w).alloc _).alloc _
 have hk : w.heap.size ≤ (w.alloc (.cells #[.int .u8 43, .int .i64 A, .int .i64 B, .int .i64 C, .int .i64 m] 64)).heap.size := by simp
 have hsz : (w.alloc (.cells #[.int .u8 43, .int .i64 A, .int .i64 B, .int .i64 C, .int .i64 m] 64)).heap.size = w.heap.size + 1 := by simp
 rw [hsz] at A1 hk
 replace A0 := Hz.mk A0
 replace A1 := Hz.mk A1
 replace hk := Hz.mk hk
 replace g0 := Hz.mk g0
 clear hsz hg
 go_enter Tryz.func92, Tryz.ntmps92
 go_upto_region 1 with fail
 refine wp_world (fun W => At W w.heap.size #[.int .u8 43, .int .i64 A, .int .i64 B, .int .i64 C, .int .i64 m] ∧ At W (w.heap.size + 1) (List.toArray [Value.int .u64 0, .int .u64 0, .int .u64 0, .int .u8 0, .int .i64 0]) ∧ Bl w W) ⟨A0.out, A1.out, g0.out⟩ ?_
 clear A0 A1 g0
 rintro W ⟨A0, A1, g0⟩
 have hn0 : Hz (w.heap.size ≠ w.heap.size + 1) := Hz.mk (by omega)
 generalize w.heap.size + 1 = kr at *
 have c2 : W.cell? ⟨w.heap.size, 2, none⟩ = some (.int .i64 B) := A0.2.1 2
 replace A0 := Hz.mk A0
 replace A1 := Hz.mk A1
 replace g0 := Hz.mk g0
 go_wp2_with (refine (hH.out _ g0.out).mono ?_; rintro r X1 ⟨rfl, e1⟩)
 exact ⟨rfl, rfl, g0.out.trans e1⟩
theorem made43_ok (a A B C : Nat) (m : Int) (v u : Vl) (w : World) (hv : RgAt w a B v) (_hu : RgAt w a C u) (hg : v.g = true) :
   Calls Tryz.prog 92 #[.pointer (some ⟨a, 0, none⟩), insA 43 A B C m] w fun x w' => x = madeV (madeR 43 m v u) ∧ Bl w w' := by
 have er : madeR 43 m v u = .ok (setF v.c (u64W m)) := by unfold madeR; rw [hg]; rfl
 rw [er]
 clear er
 unfold insA
 have hH := Hz.mk (fun X g => held_okB a B v X (hv.bl g) hg)
 have h3 := Hz.mk (fun X => cwSet v.c (u64W m) X)
 unfold u64W at h3
 show Calls _ _ _ _ fun x w' => x = .returned (CfV (setF v.c (u64W m))) ∧ Bl w w'
 unfold u64W
 generalize setF v.c (IntKind.u64.wrap m) = rr at *
 obtain ⟨rc, rf⟩ := rr
 unfold CfV at h3 ⊢
 simp only at h3 ⊢
 try unfold Cp.val at *
 have A0 : At ((w.alloc (.cells #[.int .u8 43, .int .i64 A, .int .i64 B, .int .i64 C, .int .i64 m] 64)).alloc (.cells (List.toArray [Value.int .u64 0, .int .u64 0, .int .u64 0, .int .u8 0, .int .i64 0]) 35)) w.heap.size #[.int .u8 43, .int .i64 A, .int .i64 B, .int .i64 C, .int .i64 m] := (At.new w #[.int .u8 43, .int .i64 A, .int .i64 B, .int .i64 C, .int .i64 m] 64).alloc _
 have A1 : At ((w.alloc (.cells #[.int .u8 43, .int .i64 A, .int .i64 B, .int .i64 C, .int .i64 m] 64)).alloc (.cells (List.toArray [Value.int .u64 0, .int .u64 0, .int .u64 0, .int .u8 0, .int .i64 0]) 35)) (w.alloc (.cells #[.int .u8 43, .int .i64 A, .int .i64 B, .int .i64 C, .int .i64 m] 64)).heap.size (List.toArray [Value.int .u64 0, .int .u64 0, .int .u64 0, .int .u8 0, .int .i64 0]) := At.new (w.alloc (.cells #[.int .u8 43, .int .i64 A, .int .i64 B, .int .i64 C, .int .i64 m] 64)) (List.toArray [Value.int .u64 0, .int .u64 0, .int .u64 0, .int .u8 0, .int .i64 0]) 35
 have g0 : Bl w ((w.alloc (.cells #[.int .u8 43, .int .i64 A, .int .i64 B, .int .i64 C, .int .i64 m] 64)).alloc (.cells (List.toArray [Value.int .u64 0, .int .u64 0, .int .u64 0, .int .u8 0, .int .i64 0]) 35)) := ((Bl.refl w).alloc _).alloc _
 have hk : w.heap.size ≤ (w.alloc (.cells #[.int .u8 43, .int .i64 A, .int .i64 B, .int .i64 C, .int .i64 m] 64)).heap.size := by simp
 have hsz : (w.alloc (.cells #[.int .u8 43, .int .i64 A, .int .i64 B, .int .i64 C, .int .i64 m] 64)).heap.size = w.heap.size + 1 := by simp
 rw [hsz] at A1 hk
 replace A0 := Hz.mk A0
 replace A1 := Hz.mk A1
 replace hk := Hz.mk hk
 replace g0 := Hz.mk g0
 clear hsz hg
 go_enter Tryz.func92, Tryz.ntmps92
 go_upto_region 1 with fail
 refine wp_world (fun W => At W w.heap.size #[.int .u8 43, .int .i64 A, .int .i64 B, .int .i64 C, .int .i64 m] ∧ At W (w.heap.size + 1) (List.toArray [Value.int .u64 0, .int .u64 0, .int .u64 0, .int .u8 0, .int .i64 0]) ∧ Bl w W) ⟨A0.out, A1.out, g0.out⟩ ?_
 clear A0 A1 g0
 rintro W ⟨A0, A1, g0⟩
 have hn0 : Hz (w.heap.size ≠ w.heap.size + 1) := Hz.mk (by omega)
 generalize w.heap.size + 1 = kr at *
 have c2 : W.cell? ⟨w.heap.size, 2, none⟩ = some (.int .i64 B) := A0.2.1 2
 replace A0 := Hz.mk A0
 replace A1 := Hz.mk A1
 replace g0 := Hz.mk g0
 go_wp2_with fail
 refine (hH.out _ g0.out).mono ?_
 rintro r X1 ⟨rfl, e1⟩
 replace A0 := Hz.mk (e1.at_ A0.out)
 replace A1 := Hz.mk (e1.at_ A1.out)
 replace g0 := Hz.mk (g0.out.trans e1)
 clear e1 c2 hH
 have hn6 : Hz (X1.heap.size ≠ kr) := Hz.mk (by have := A1.out.1; omega)
 go_upto_region 2 with fail
 refine wp_world (fun W => At W w.heap.size #[.int .u8 43, .int .i64 A, .int .i64 B, .int .i64 C, .int .i64 m] ∧ At W kr (List.toArray [Value.int .u64 0, .int .u64 0, .int .u64 0, .int .u8 0, .int .i64 0]) ∧ At W X1.heap.size (List.toArray [Value.int .u64 v.c.b, .int .u64 v.c.e, .int .u64 v.c.c, .int .u8 v.c.p, .int .i64 v.c.s]) ∧ Bl w W) ⟨A0.out.alloc _, A1.out.alloc _, At.new X1 (List.toArray [Value.int .u64 v.c.b, .int .u64 v.c.e, .int .u64 v.c.c, .int .u8 v.c.p, .int .i64 v.c.s]) 35, g0.out.alloc _⟩ ?_
 clear A0 A1 g0
 rintro Y ⟨A0, A1, A2, g0⟩
 generalize X1.heap.size = k6 at *
 have c0 : Y.cell? ⟨w.heap.size, 0, none⟩ = some (.int .u8 43) := A0.2.1 0
 replace A0 := Hz.mk A0
 replace A1 := Hz.mk A1
 replace A2 := Hz.mk A2
 replace g0 := Hz.mk g0
 go_upto_region 10 with fail
 clear c0
 have ⟨_, p0, _⟩ := A0.out
 have ⟨_, p2, _⟩ := A2.out
 go_wp2_with fail
 refine (h3.out _).mono ?_
 rintro r X4 ⟨rfl, e4⟩
 replace A0 := Hz.mk (e4.at_ A0.out); replace A1 := Hz.mk (e4.at_ A1.out); replace A2 := Hz.mk (e4.at_ A2.out); replace g0 := Hz.mk (g0.out.trans e4)
 clear e4 p0 p2
 have ⟨_, p1, f1⟩ := A1.out
 have l1 := A1.out.1
 go_wp2_with fail
 have A9 := At.setAll (cs := [Value.int .u64 0, .int .u64 0, .int .u64 0, .int .u8 0, .int .i64 0]) A1.out [Value.int .u64 rc.b, .int .u64 rc.e, .int .u64 rc.c, .int .u8 rc.p, .int .i64 rc.s] rfl
 have g9 := g0.out.sets kr hk.out [Value.int .u64 rc.b, .int .u64 rc.e, .int .u64 rc.c, .int .u8 rc.p, .int .i64 rc.s] 0
 have ⟨_, q4, _⟩ := A9
 simp only [World.setCells] at q4 g9
 simp [bodyPost, results, Tryz.results92, go_sem, q4]
 exact g9
theorem made44_b (a A B C : Nat) (m : Int) (v u : Vl) (w : World) (hv : RgAt w a B v) (_hu : RgAt w a C u) (hg : v.g = false) :
   Calls Tryz.prog 92 #[.pointer (some ⟨a, 0, none⟩), insA 44 A B C m] w fun x w' => x = madeV (madeR 44 m v u) ∧ Bl w w' := by
 have er : madeR 44 m v u = .error (flt 1) := by unfold madeR; rw [hg]; rfl
 rw [er]
 clear er
 unfold insA
 have hH := Hz.mk (fun X g => held_badB a B v X (hv.bl g) hg)
 unfold pan at hH
 simp only [madeV, pan]
 try unfold Cp.val at *
 have A0 : At ((w.alloc (.cells #[.int .u8 44, .int .i64 A, .int .i64 B, .int .i64 C, .int .i64 m] 64)).alloc (.cells (List.toArray [Value.int .u64 0, .int .u64 0, .int .u64 0, .int .u8 0, .int .i64 0]) 35)) w.heap.size #[.int .u8 44, .int .i64 A, .int .i64 B, .int .i64 C, .int .i64 m] := (At.new w #[.int .u8 44, .int .i64 A, .int .i64 B, .int .i64 C, .int .i64 m] 64).alloc _
 have A1 : At ((w.alloc (.cells #[.int .u8 44, .int .i64 A, .int .i64 B, .int .i64 C, .int .i64 m] 64)).alloc (.cells (List.toArray [Value.int .u64 0, .int .u64 0, .int .u64 0, .int .u8 0, .int .i64 0]) 35)) (w.alloc (.cells #[.int .u8 44, .int .i64 A, .int .i64 B, .int .i64 C, .int .i64 m] 64)).heap.size (List.toArray [Value.int .u64 0, .int .u64 0, .int .u64 0, .int .u8 0, .int .i64 0]) := At.new (w.alloc (.cells #[.int .u8 44, .int .i64 A, .int .i64 B, .int .i64 C, .int .i64 m] 64)) (List.toArray [Value.int .u64 0, .int .u64 0, .int .u64 0, .int .u8 0, .int .i64 0]) 35
 have g0 : Bl w ((w.alloc (.cells #[.int .u8 44, .int .i64 A, .int .i64 B, .int .i64 C, .int .i64 m] 64)).alloc (.cells (List.toArray [Value.int .u64 0, .int .u64 0, .int .u64 0, .int .u8 0, .int .i64 0]) 35)) := ((Bl.refl w).alloc _).alloc _
 have hk : w.heap.size ≤ (w.alloc (.cells #[.int .u8 44, .int .i64 A, .int .i64 B, .int .i64 C, .int .i64 m] 64)).heap.size := by simp
 have hsz : (w.alloc (.cells #[.int .u8 44, .int .i64 A, .int .i64 B, .int .i64 C, .int .i64 m] 64)).heap.size = w.heap.size + 1 := by simp
 rw [hsz] at A1 hk
 replace A0 := Hz.mk A0
 replace A1 := Hz.mk A1
 replace hk := Hz.mk hk
 replace g0 := Hz.mk g0
 clear hsz hg
 go_enter Tryz.func92, Tryz.ntmps92
 go_upto_region 1 with fail
 refine wp_world (fun W => At W w.heap.size #[.int .u8 44, .int .i64 A, .int .i64 B, .int .i64 C, .int .i64 m] ∧ At W (w.heap.size + 1) (List.toArray [Value.int .u64 0, .int .u64 0, .int .u64 0, .int .u8 0, .int .i64 0]) ∧ Bl w W) ⟨A0.out, A1.out, g0.out⟩ ?_
 clear A0 A1 g0
 rintro W ⟨A0, A1, g0⟩
 have hn0 : Hz (w.heap.size ≠ w.heap.size + 1) := Hz.mk (by omega)
 generalize w.heap.size + 1 = kr at *
 have c2 : W.cell? ⟨w.heap.size, 2, none⟩ = some (.int .i64 B) := A0.2.1 2
 replace A0 := Hz.mk A0
 replace A1 := Hz.mk A1
 replace g0 := Hz.mk g0
 go_wp2_with (refine (hH.out _ g0.out).mono ?_; rintro r X1 ⟨rfl, e1⟩)
 exact ⟨rfl, rfl, g0.out.trans e1⟩
theorem made44_ok (a A B C : Nat) (m : Int) (v u : Vl) (w : World) (hv : RgAt w a B v) (_hu : RgAt w a C u) (hg : v.g = true) :
   Calls Tryz.prog 92 #[.pointer (some ⟨a, 0, none⟩), insA 44 A B C m] w fun x w' => x = madeV (madeR 44 m v u) ∧ Bl w w' := by
 have er : madeR 44 m v u = .ok (andF v.c (IntKind.u8.wrap m)) := by unfold madeR; rw [hg]; rfl
 rw [er]
 clear er
 unfold insA
 have hH := Hz.mk (fun X g => held_okB a B v X (hv.bl g) hg)
 have h3 := Hz.mk (fun X => cwAnd v.c (IntKind.u8.wrap m) X)
 show Calls _ _ _ _ fun x w' => x = .returned (CfV (andF v.c (IntKind.u8.wrap m))) ∧ Bl w w'
 generalize andF v.c (IntKind.u8.wrap m) = rr at *
 obtain ⟨rc, rf⟩ := rr
 unfold CfV at h3 ⊢
 simp only at h3 ⊢
 try unfold Cp.val at *
 have A0 : At ((w.alloc (.cells #[.int .u8 44, .int .i64 A, .int .i64 B, .int .i64 C, .int .i64 m] 64)).alloc (.cells (List.toArray [Value.int .u64 0, .int .u64 0, .int .u64 0, .int .u8 0, .int .i64 0]) 35)) w.heap.size #[.int .u8 44, .int .i64 A, .int .i64 B, .int .i64 C, .int .i64 m] := (At.new w #[.int .u8 44, .int .i64 A, .int .i64 B, .int .i64 C, .int .i64 m] 64).alloc _
 have A1 : At ((w.alloc (.cells #[.int .u8 44, .int .i64 A, .int .i64 B, .int .i64 C, .int .i64 m] 64)).alloc (.cells (List.toArray [Value.int .u64 0, .int .u64 0, .int .u64 0, .int .u8 0, .int .i64 0]) 35)) (w.alloc (.cells #[.int .u8 44, .int .i64 A, .int .i64 B, .int .i64 C, .int .i64 m] 64)).heap.size (List.toArray [Value.int .u64 0, .int .u64 0, .int .u64 0, .int .u8 0, .int .i64 0]) := At.new (w.alloc (.cells #[.int .u8 44, .int .i64 A, .int .i64 B, .int .i64 C, .int .i64 m] 64)) (List.toArray [Value.int .u64 0, .int .u64 0, .int .u64 0, .int .u8 0, .int .i64 0]) 35
 have g0 : Bl w ((w.alloc (.cells #[.int .u8 44, .int .i64 A, .int .i64 B, .int .i64 C, .int .i64 m] 64)).alloc (.cells (List.toArray [Value.int .u64 0, .int .u64 0, .int .u64 0, .int .u8 0, .int .i64 0]) 35)) := ((Bl.refl w).alloc _).alloc _
 have hk : w.heap.size ≤ (w.alloc (.cells #[.int .u8 44, .int .i64 A, .int .i64 B, .int .i64 C, .int .i64 m] 64)).heap.size := by simp
 have hsz : (w.alloc (.cells #[.int .u8 44, .int .i64 A, .int .i64 B, .int .i64 C, .int .i64 m] 64)).heap.size = w.heap.size + 1 := by simp
 rw [hsz] at A1 hk
 replace A0 := Hz.mk A0
 replace A1 := Hz.mk A1
 replace hk := Hz.mk hk
 replace g0 := Hz.mk g0
 clear hsz hg
 go_enter Tryz.func92, Tryz.ntmps92
 go_upto_region 1 with fail
 refine wp_world (fun W => At W w.heap.size #[.int .u8 44, .int .i64 A, .int .i64 B, .int .i64 C, .int .i64 m] ∧ At W (w.heap.size + 1) (List.toArray [Value.int .u64 0, .int .u64 0, .int .u64 0, .int .u8 0, .int .i64 0]) ∧ Bl w W) ⟨A0.out, A1.out, g0.out⟩ ?_
 clear A0 A1 g0
 rintro W ⟨A0, A1, g0⟩
 have hn0 : Hz (w.heap.size ≠ w.heap.size + 1) := Hz.mk (by omega)
 generalize w.heap.size + 1 = kr at *
 have c2 : W.cell? ⟨w.heap.size, 2, none⟩ = some (.int .i64 B) := A0.2.1 2
 replace A0 := Hz.mk A0
 replace A1 := Hz.mk A1
 replace g0 := Hz.mk g0
 go_wp2_with fail
 refine (hH.out _ g0.out).mono ?_
 rintro r X1 ⟨rfl, e1⟩
 replace A0 := Hz.mk (e1.at_ A0.out)
 replace A1 := Hz.mk (e1.at_ A1.out)
 replace g0 := Hz.mk (g0.out.trans e1)
 clear e1 c2 hH
 have hn6 : Hz (X1.heap.size ≠ kr) := Hz.mk (by have := A1.out.1; omega)
 go_upto_region 2 with fail
 refine wp_world (fun W => At W w.heap.size #[.int .u8 44, .int .i64 A, .int .i64 B, .int .i64 C, .int .i64 m] ∧ At W kr (List.toArray [Value.int .u64 0, .int .u64 0, .int .u64 0, .int .u8 0, .int .i64 0]) ∧ At W X1.heap.size (List.toArray [Value.int .u64 v.c.b, .int .u64 v.c.e, .int .u64 v.c.c, .int .u8 v.c.p, .int .i64 v.c.s]) ∧ Bl w W) ⟨A0.out.alloc _, A1.out.alloc _, At.new X1 (List.toArray [Value.int .u64 v.c.b, .int .u64 v.c.e, .int .u64 v.c.c, .int .u8 v.c.p, .int .i64 v.c.s]) 35, g0.out.alloc _⟩ ?_
 clear A0 A1 g0
 rintro Y ⟨A0, A1, A2, g0⟩
 generalize X1.heap.size = k6 at *
 have c0 : Y.cell? ⟨w.heap.size, 0, none⟩ = some (.int .u8 44) := A0.2.1 0
 replace A0 := Hz.mk A0
 replace A1 := Hz.mk A1
 replace A2 := Hz.mk A2
 replace g0 := Hz.mk g0
 go_upto_region 12 with fail
 clear c0
 have ⟨_, p0, _⟩ := A0.out
 have ⟨_, p2, _⟩ := A2.out
 go_wp2_with fail
 refine (h3.out _).mono ?_
 rintro r X4 ⟨rfl, e4⟩
 replace A0 := Hz.mk (e4.at_ A0.out); replace A1 := Hz.mk (e4.at_ A1.out); replace A2 := Hz.mk (e4.at_ A2.out); replace g0 := Hz.mk (g0.out.trans e4)
 clear e4 p0 p2
 have ⟨_, p1, f1⟩ := A1.out
 have l1 := A1.out.1
 go_wp2_with fail
 have A9 := At.setAll (cs := [Value.int .u64 0, .int .u64 0, .int .u64 0, .int .u8 0, .int .i64 0]) A1.out [Value.int .u64 rc.b, .int .u64 rc.e, .int .u64 rc.c, .int .u8 rc.p, .int .i64 rc.s] rfl
 have g9 := g0.out.sets kr hk.out [Value.int .u64 rc.b, .int .u64 rc.e, .int .u64 rc.c, .int .u8 rc.p, .int .i64 rc.s] 0
 have ⟨_, q4, _⟩ := A9
 simp only [World.setCells] at q4 g9
 simp [bodyPost, results, Tryz.results92, go_sem, q4]
 exact g9
end C
end Go.Proofs.YtiigpncfmakgjaaGreatDoor


namespace Go.Proofs.YtiigpncfmakgjaaGreatDoor
set_option maxRecDepth 100000
set_option maxHeartbeats 40000000
namespace C
open Go.RowKit
open T (Sep Ob Kp Mf TgIn boxOb Fm Tc Ed Vl Cp Bx tgOb mRow updV flt)

theorem made45_b (a A B C : Nat) (m : Int) (v u : Vl) (w : World) (hv : RgAt w a B v) (_hu : RgAt w a C u) (hg : v.g = false) :
   Calls Tryz.prog 92 #[.pointer (some ⟨a, 0, none⟩), insA 45 A B C m] w fun x w' => x = madeV (madeR 45 m v u) ∧ Bl w w' := by
 have er : madeR 45 m v u = .error (flt 1) := by unfold madeR; rw [hg]; rfl
 rw [er]
 clear er
 unfold insA
 have hH := Hz.mk (fun X g => held_badB a B v X (hv.bl g) hg)
 unfold pan at hH
 simp only [madeV, pan]
 try unfold Cp.val at *
 have A0 : At ((w.alloc (.cells #[.int .u8 45, .int .i64 A, .int .i64 B, .int .i64 C, .int .i64 m] 64)).alloc (.cells (List.toArray [Value.int .u64 0, .int .u64 0, .int .u64 0, .int .u8 0, .int .i64 0]) 35)) w.heap.size #[.int .u8 45, .int .i64 A, .int .i64 B, .int .i64 C, .int .i64 m] := (At.new w #[.int .u8 45, .int .i64 A, .int .i64 B, .int .i64 C, .int .i64 m] 64).alloc _
 have A1 : At ((w.alloc (.cells #[.int .u8 45, .int .i64 A, .int .i64 B, .int .i64 C, .int .i64 m] 64)).alloc (.cells (List.toArray [Value.int .u64 0, .int .u64 0, .int .u64 0, .int .u8 0, .int .i64 0]) 35)) (w.alloc (.cells #[.int .u8 45, .int .i64 A, .int .i64 B, .int .i64 C, .int .i64 m] 64)).heap.size (List.toArray [Value.int .u64 0, .int .u64 0, .int .u64 0, .int .u8 0, .int .i64 0]) := At.new (w.alloc (.cells #[.int .u8 45, .int .i64 A, .int .i64 B, .int .i64 C, .int .i64 m] 64)) (List.toArray [Value.int .u64 0, .int .u64 0, .int .u64 0, .int .u8 0, .int .i64 0]) 35
 have g0 : Bl w ((w.alloc (.cells #[.int .u8 45, .int .i64 A, .int .i64 B, .int .i64 C, .int .i64 m] 64)).alloc (.cells (List.toArray [Value.int .u64 0, .int .u64 0, .int .u64 0, .int .u8 0, .int .i64 0]) 35)) := ((Bl.refl w).alloc _).alloc _
 have hk : w.heap.size ≤ (w.alloc (.cells #[.int .u8 45, .int .i64 A, .int .i64 B, .int .i64 C, .int .i64 m] 64)).heap.size := by simp
 have hsz : (w.alloc (.cells #[.int .u8 45, .int .i64 A, .int .i64 B, .int .i64 C, .int .i64 m] 64)).heap.size = w.heap.size + 1 := by simp
 rw [hsz] at A1 hk
 replace A0 := Hz.mk A0
 replace A1 := Hz.mk A1
 replace hk := Hz.mk hk
 replace g0 := Hz.mk g0
 clear hsz hg
 go_enter Tryz.func92, Tryz.ntmps92
 go_upto_region 1 with fail
 refine wp_world (fun W => At W w.heap.size #[.int .u8 45, .int .i64 A, .int .i64 B, .int .i64 C, .int .i64 m] ∧ At W (w.heap.size + 1) (List.toArray [Value.int .u64 0, .int .u64 0, .int .u64 0, .int .u8 0, .int .i64 0]) ∧ Bl w W) ⟨A0.out, A1.out, g0.out⟩ ?_
 clear A0 A1 g0
 rintro W ⟨A0, A1, g0⟩
 have hn0 : Hz (w.heap.size ≠ w.heap.size + 1) := Hz.mk (by omega)
 generalize w.heap.size + 1 = kr at *
 have c2 : W.cell? ⟨w.heap.size, 2, none⟩ = some (.int .i64 B) := A0.2.1 2
 replace A0 := Hz.mk A0
 replace A1 := Hz.mk A1
 replace g0 := Hz.mk g0
 go_wp2_with (refine (hH.out _ g0.out).mono ?_; rintro r X1 ⟨rfl, e1⟩)
 exact ⟨rfl, rfl, g0.out.trans e1⟩
theorem made45_c (a A B C : Nat) (m : Int) (v u : Vl) (w : World) (hv : RgAt w a B v) (hu : RgAt w a C u) (hg : v.g = true) (hg2 : u.g = false) :
   Calls Tryz.prog 92 #[.pointer (some ⟨a, 0, none⟩), insA 45 A B C m] w fun x w' => x = madeV (madeR 45 m v u) ∧ Bl w w' := by
 have er : madeR 45 m v u = .error (flt 1) := by unfold madeR; rw [hg, hg2]; rfl
 rw [er]
 clear er
 unfold insA
 have hH := Hz.mk (fun X g => held_okB a B v X (hv.bl g) hg)
 have h2 := Hz.mk (fun X g => held_badB a C u X (hu.bl g) hg2)
 unfold pan at h2
 simp only [madeV, pan]
 try unfold Cp.val at *
 have A0 : At ((w.alloc (.cells #[.int .u8 45, .int .i64 A, .int .i64 B, .int .i64 C, .int .i64 m] 64)).alloc (.cells (List.toArray [Value.int .u64 0, .int .u64 0, .int .u64 0, .int .u8 0, .int .i64 0]) 35)) w.heap.size #[.int .u8 45, .int .i64 A, .int .i64 B, .int .i64 C, .int .i64 m] := (At.new w #[.int .u8 45, .int .i64 A, .int .i64 B, .int .i64 C, .int .i64 m] 64).alloc _
 have A1 : At ((w.alloc (.cells #[.int .u8 45, .int .i64 A, .int .i64 B, .int .i64 C, .int .i64 m] 64)).alloc (.cells (List.toArray [Value.int .u64 0, .int .u64 0, .int .u64 0, .int .u8 0, .int .i64 0]) 35)) (w.alloc (.cells #[.int .u8 45, .int .i64 A, .int .i64 B, .int .i64 C, .int .i64 m] 64)).heap.size (List.toArray [Value.int .u64 0, .int .u64 0, .int .u64 0, .int .u8 0, .int .i64 0]) := At.new (w.alloc (.cells #[.int .u8 45, .int .i64 A, .int .i64 B, .int .i64 C, .int .i64 m] 64)) (List.toArray [Value.int .u64 0, .int .u64 0, .int .u64 0, .int .u8 0, .int .i64 0]) 35
 have g0 : Bl w ((w.alloc (.cells #[.int .u8 45, .int .i64 A, .int .i64 B, .int .i64 C, .int .i64 m] 64)).alloc (.cells (List.toArray [Value.int .u64 0, .int .u64 0, .int .u64 0, .int .u8 0, .int .i64 0]) 35)) := ((Bl.refl w).alloc _).alloc _
 have hk : w.heap.size ≤ (w.alloc (.cells #[.int .u8 45, .int .i64 A, .int .i64 B, .int .i64 C, .int .i64 m] 64)).heap.size := by simp
 have hsz : (w.alloc (.cells #[.int .u8 45, .int .i64 A, .int .i64 B, .int .i64 C, .int .i64 m] 64)).heap.size = w.heap.size + 1 := by simp
 rw [hsz] at A1 hk
 replace A0 := Hz.mk A0
 replace A1 := Hz.mk A1
 replace hk := Hz.mk hk
 replace g0 := Hz.mk g0
 clear hsz hg
 go_enter Tryz.func92, Tryz.ntmps92
 go_upto_region 1 with fail
 refine wp_world (fun W => At W w.heap.size #[.int .u8 45, .int .i64 A, .int .i64 B, .int .i64 C, .int .i64 m] ∧ At W (w.heap.size + 1) (List.toArray [Value.int .u64 0, .int .u64 0, .int .u64 0, .int .u8 0, .int .i64 0]) ∧ Bl w W) ⟨A0.out, A1.out, g0.out⟩ ?_
 clear A0 A1 g0
 rintro W ⟨A0, A1, g0⟩
 have hn0 : Hz (w.heap.size ≠ w.heap.size + 1) := Hz.mk (by omega)
 generalize w.heap.size + 1 = kr at *
 have c2 : W.cell? ⟨w.heap.size, 2, none⟩ = some (.int .i64 B) := A0.2.1 2
 replace A0 := Hz.mk A0
 replace A1 := Hz.mk A1
 replace g0 := Hz.mk g0
 go_wp2_with fail
 refine (hH.out _ g0.out).mono ?_
 rintro r X1 ⟨rfl, e1⟩
 replace A0 := Hz.mk (e1.at_ A0.out)
 replace A1 := Hz.mk (e1.at_ A1.out)
 replace g0 := Hz.mk (g0.out.trans e1)
 clear e1 c2 hH
 have hn6 : Hz (X1.heap.size ≠ kr) := Hz.mk (by have := A1.out.1; omega)
 go_upto_region 2 with fail
 refine wp_world (fun W => At W w.heap.size #[.int .u8 45, .int .i64 A, .int .i64 B, .int .i64 C, .int .i64 m] ∧ At W kr (List.toArray [Value.int .u64 0, .int .u64 0, .int .u64 0, .int .u8 0, .int .i64 0]) ∧ At W X1.heap.size (List.toArray [Value.int .u64 v.c.b, .int .u64 v.c.e, .int .u64 v.c.c, .int .u8 v.c.p, .int .i64 v.c.s]) ∧ Bl w W) ⟨A0.out.alloc _, A1.out.alloc _, At.new X1 (List.toArray [Value.int .u64 v.c.b, .int .u64 v.c.e, .int .u64 v.c.c, .int .u8 v.c.p, .int .i64 v.c.s]) 35, g0.out.alloc _⟩ ?_
 clear A0 A1 g0
 rintro Y ⟨A0, A1, A2, g0⟩
 generalize X1.heap.size = k6 at *
 have c0 : Y.cell? ⟨w.heap.size, 0, none⟩ = some (.int .u8 45) := A0.2.1 0
 replace A0 := Hz.mk A0
 replace A1 := Hz.mk A1
 replace A2 := Hz.mk A2
 replace g0 := Hz.mk g0
 go_upto_region 14 with fail
 clear c0
 replace A0 := Hz.mk ((Bl.refl Y).drew.at_ A0.out)
 replace A1 := Hz.mk ((Bl.refl Y).drew.at_ A1.out)
 replace A2 := Hz.mk ((Bl.refl Y).drew.at_ A2.out)
 replace g0 := Hz.mk g0.out.drew
 refine wp_region_held_drew (S := (fun X => X.rangeAt k6 0 [Value.int .u64 v.c.b, .int .u64 v.c.e, .int .u64 v.c.c, .int .u8 v.c.p, .int .i64 v.c.s] ∧ X.cell? ⟨w.heap.size, 3, none⟩ = some (.int .i64 C))) (by kernel_rfl) (⟨fun j x q => by rw [Nat.zero_add]; exact (A2.out.2.1 j).trans (by simpa using q), A0.out.2.1 3⟩) (fun hHeld => ?_)
 refine xtk 0 rfl (yieldsIf_load_mid (by rfl) _ _ rfl _ _ rfl _ _ (fun _ h => h.1) Tryz.underlying35 rfl (by kernel_rfl)) ?_
 try simp only [xap]
 refine xso 1 ?_ rfl ?_ (xso 2 ?_ rfl ?_ (xso 3 ?_ rfl ?_ ?_))
 iterate 3 (rotate_left; focus ((try simp only [xap]); intro w hSw; (try dsimp only at hSw); go_simp; first | done | with_reducible rfl))
 try simp only [xap]
 refine xrd 4 rfl (fun K hK => ?_)
 go_simp
 go_wp2_with (refine (h2.out _ g0.out).mono ?_; rintro r X3 ⟨rfl, e3⟩)
 exact ⟨rfl, rfl, g0.out.trans e3⟩
theorem made45_ok (a A B C : Nat) (m : Int) (v u : Vl) (w : World) (hv : RgAt w a B v) (hu : RgAt w a C u) (hg : v.g = true) (hg2 : u.g = true) :
   Calls Tryz.prog 92 #[.pointer (some ⟨a, 0, none⟩), insA 45 A B C m] w fun x w' => x = madeV (madeR 45 m v u) ∧ Bl w w' := by
 have er : madeR 45 m v u = .ok (sealF v.c u.c) := by unfold madeR; rw [hg, hg2]; rfl
 rw [er]
 clear er
 unfold insA
 have hH := Hz.mk (fun X g => held_okB a B v X (hv.bl g) hg)
 have h2 := Hz.mk (fun X g => held_okB a C u X (hu.bl g) hg2)
 have h3 := Hz.mk (fun X => cwSeal v.c u.c X)
 show Calls _ _ _ _ fun x w' => x = .returned (CfV (sealF v.c u.c)) ∧ Bl w w'
 generalize sealF v.c u.c = rr at *
 obtain ⟨rc, rf⟩ := rr
 unfold CfV at h3 ⊢
 simp only at h3 ⊢
 try unfold Cp.val at *
 have A0 : At ((w.alloc (.cells #[.int .u8 45, .int .i64 A, .int .i64 B, .int .i64 C, .int .i64 m] 64)).alloc (.cells (List.toArray [Value.int .u64 0, .int .u64 0, .int .u64 0, .int .u8 0, .int .i64 0]) 35)) w.heap.size #[.int .u8 45, .int .i64 A, .int .i64 B, .int .i64 C, .int .i64 m] := (At.new w #[.int .u8 45, .int .i64 A, .int .i64 B, .int .i64 C, .int .i64 m] 64).alloc _
 have A1 : At ((w.alloc (.cells #[.int .u8 45, .int .i64 A, .int .i64 B, .int .i64 C, .int .i64 m] 64)).alloc (.cells (List.toArray [Value.int .u64 0, .int .u64 0, .int .u64 0, .int .u8 0, .int .i64 0]) 35)) (w.alloc (.cells #[.int .u8 45, .int .i64 A, .int .i64 B, .int .i64 C, .int .i64 m] 64)).heap.size (List.toArray [Value.int .u64 0, .int .u64 0, .int .u64 0, .int .u8 0, .int .i64 0]) := At.new (w.alloc (.cells #[.int .u8 45, .int .i64 A, .int .i64 B, .int .i64 C, .int .i64 m] 64)) (List.toArray [Value.int .u64 0, .int .u64 0, .int .u64 0, .int .u8 0, .int .i64 0]) 35
 have g0 : Bl w ((w.alloc (.cells #[.int .u8 45, .int .i64 A, .int .i64 B, .int .i64 C, .int .i64 m] 64)).alloc (.cells (List.toArray [Value.int .u64 0, .int .u64 0, .int .u64 0, .int .u8 0, .int .i64 0]) 35)) := ((Bl.refl w).alloc _).alloc _
 have hk : w.heap.size ≤ (w.alloc (.cells #[.int .u8 45, .int .i64 A, .int .i64 B, .int .i64 C, .int .i64 m] 64)).heap.size := by simp
 have hsz : (w.alloc (.cells #[.int .u8 45, .int .i64 A, .int .i64 B, .int .i64 C, .int .i64 m] 64)).heap.size = w.heap.size + 1 := by simp
 rw [hsz] at A1 hk
 replace A0 := Hz.mk A0
 replace A1 := Hz.mk A1
 replace hk := Hz.mk hk
 replace g0 := Hz.mk g0
 clear hsz hg
 go_enter Tryz.func92, Tryz.ntmps92
 go_upto_region 1 with fail
 refine wp_world (fun W => At W w.heap.size #[.int .u8 45, .int .i64 A, .int .i64 B, .int .i64 C, .int .i64 m] ∧ At W (w.heap.size + 1) (List.toArray [Value.int .u64 0, .int .u64 0, .int .u64 0, .int .u8 0, .int .i64 0]) ∧ Bl w W) ⟨A0.out, A1.out, g0.out⟩ ?_
 clear A0 A1 g0
 rintro W ⟨A0, A1, g0⟩
 have hn0 : Hz (w.heap.size ≠ w.heap.size + 1) := Hz.mk (by omega)
 generalize w.heap.size + 1 = kr at *
 have c2 : W.cell? ⟨w.heap.size, 2, none⟩ = some (.int .i64 B) := A0.2.1 2
 replace A0 := Hz.mk A0
 replace A1 := Hz.mk A1
 replace g0 := Hz.mk g0
 go_wp2_with fail
 refine (hH.out _ g0.out).mono ?_
 rintro r X1 ⟨rfl, e1⟩
 replace A0 := Hz.mk (e1.at_ A0.out)
 replace A1 := Hz.mk (e1.at_ A1.out)
 replace g0 := Hz.mk (g0.out.trans e1)
 clear e1 c2 hH
 have hn6 : Hz (X1.heap.size ≠ kr) := Hz.mk (by have := A1.out.1; omega)
 go_upto_region 2 with fail
 refine wp_world (fun W => At W w.heap.size #[.int .u8 45, .int .i64 A, .int .i64 B, .int .i64 C, .int .i64 m] ∧ At W kr (List.toArray [Value.int .u64 0, .int .u64 0, .int .u64 0, .int .u8 0, .int .i64 0]) ∧ At W X1.heap.size (List.toArray [Value.int .u64 v.c.b, .int .u64 v.c.e, .int .u64 v.c.c, .int .u8 v.c.p, .int .i64 v.c.s]) ∧ Bl w W) ⟨A0.out.alloc _, A1.out.alloc _, At.new X1 (List.toArray [Value.int .u64 v.c.b, .int .u64 v.c.e, .int .u64 v.c.c, .int .u8 v.c.p, .int .i64 v.c.s]) 35, g0.out.alloc _⟩ ?_
 clear A0 A1 g0
 rintro Y ⟨A0, A1, A2, g0⟩
 generalize X1.heap.size = k6 at *
 have c0 : Y.cell? ⟨w.heap.size, 0, none⟩ = some (.int .u8 45) := A0.2.1 0
 replace A0 := Hz.mk A0
 replace A1 := Hz.mk A1
 replace A2 := Hz.mk A2
 replace g0 := Hz.mk g0
 go_upto_region 14 with fail
 clear c0
 replace A0 := Hz.mk ((Bl.refl Y).drew.at_ A0.out)
 replace A1 := Hz.mk ((Bl.refl Y).drew.at_ A1.out)
 replace A2 := Hz.mk ((Bl.refl Y).drew.at_ A2.out)
 replace g0 := Hz.mk g0.out.drew
 refine wp_region_held_drew (S := (fun X => X.rangeAt k6 0 [Value.int .u64 v.c.b, .int .u64 v.c.e, .int .u64 v.c.c, .int .u8 v.c.p, .int .i64 v.c.s] ∧ X.cell? ⟨w.heap.size, 3, none⟩ = some (.int .i64 C))) (by kernel_rfl) (⟨fun j x q => by rw [Nat.zero_add]; exact (A2.out.2.1 j).trans (by simpa using q), A0.out.2.1 3⟩) (fun hHeld => ?_)
 refine xtk 0 rfl (yieldsIf_load_mid (by rfl) _ _ rfl _ _ rfl _ _ (fun _ h => h.1) Tryz.underlying35 rfl (by kernel_rfl)) ?_
 try simp only [xap]
 refine xso 1 ?_ rfl ?_ (xso 2 ?_ rfl ?_ (xso 3 ?_ rfl ?_ ?_))
 iterate 3 (rotate_left; focus ((try simp only [xap]); intro w hSw; (try dsimp only at hSw); go_simp; first | done | with_reducible rfl))
 try simp only [xap]
 refine xrd 4 rfl (fun K hK => ?_)
 go_simp
 go_wp2_with (refine (h2.out _ g0.out).mono ?_; rintro r X3 ⟨rfl, e3⟩; replace A0 := Hz.mk (e3.at_ A0.out); replace A1 := Hz.mk (e3.at_ A1.out); replace A2 := Hz.mk (e3.at_ A2.out); replace g0 := Hz.mk (g0.out.trans e3); clear e3 hHeld)
 refine hK.out _ _ ⟨fun j x q => by rw [Nat.zero_add]; exact (A2.out.2.1 j).trans (by simpa using q), A0.out.2.1 3⟩ (fun hHeld => ?_)
 clear hK K
 try simp only [xap]
 refine xrd 5 rfl (fun K hK => ?_)
 go_simp
 go_wp2_with (refine (h3.out _).mono ?_; rintro r X4 ⟨rfl, e4⟩; replace A0 := Hz.mk (e4.at_ A0.out); replace A1 := Hz.mk (e4.at_ A1.out); replace A2 := Hz.mk (e4.at_ A2.out); replace g0 := Hz.mk (g0.out.trans e4); clear e4 hHeld)
 refine hK.out _ _ ⟨fun j x q => by rw [Nat.zero_add]; exact (A2.out.2.1 j).trans (by simpa using q), A0.out.2.1 3⟩ (fun hHeld => ?_)
 clear hK K
 try simp only [xap]
 refine xso 6 ?_ rfl ?_ (xso 7 ?_ rfl ?_ ?_)
 iterate 2 (rotate_left; focus ((try simp only [xap]); intro w hSw; (try dsimp only at hSw); go_simp; first | done | with_reducible rfl))
 try simp only [xap]
 refine xrd 8 rfl (fun K hK => ?_)
 rw [if_pos (by rfl)]
 refine wp_store_mid _ _ _ rfl _ _ (List.toArray [Value.int .u64 rc.b, .int .u64 rc.e, .int .u64 rc.c, .int .u8 rc.p, .int .i64 rc.s]) rfl rfl (At.there A1.out 0 5 (by decide)) (by kernel_rfl) (by simp [Value.oneCell']) ?_
 refine hK.out _ _ ⟨fun j x q => by rw [Nat.zero_add]; exact ((A2.out.other hn6.out 0 _).2.1 j).trans (by simpa using q), (A0.out.other hn0.out 0 _).2.1 3⟩ (fun hHeld => ?_)
 clear hK K
 try simp only [Act.put]
 refine xso 9 ?_ rfl ?_ ?_
 rotate_left
 · intro w hSw; (try dsimp only at hSw); go_simp; first | done | with_reducible rfl
 try simp only [xap]
 refine xdn ?_ _
 clear hHeld
 have A9 := Hz.mk (At.setAll (cs := [Value.int .u64 0, .int .u64 0, .int .u64 0, .int .u8 0, .int .i64 0]) A1.out [Value.int .u64 rc.b, .int .u64 rc.e, .int .u64 rc.c, .int .u8 rc.p, .int .i64 rc.s] rfl)
 have g9 := Hz.mk (g0.out.sets kr hk.out [Value.int .u64 rc.b, .int .u64 rc.e, .int .u64 rc.c, .int .u8 rc.p, .int .i64 rc.s] 0)
 try simp only [Act.put]
 generalize World.setCells _ _ _ _ = V9 at *
 have ⟨_, q4, _⟩ := A9.out
 go_wp2_with fail
 simp [bodyPost, results, Tryz.results92, go_sem, q4]
 exact g9.out
theorem made46_b (a A B C : Nat) (m : Int) (v u : Vl) (w : World) (hv : RgAt w a B v) (_hu : RgAt w a C u) (_hs : v.c.s < 9223372036854775808) (hg : v.g = false) :
   Calls Tryz.prog 92 #[.pointer (some ⟨a, 0, none⟩), insA 46 A B C m] w fun x w' => x = madeV (madeR 46 m v u) ∧ Bl w w' := by
 have er : madeR 46 m v u = .error (flt 1) := by unfold madeR; rw [hg]; rfl
 rw [er]
 clear er
 unfold insA
 have hH := Hz.mk (fun X g => held_badB a B v X (hv.bl g) hg)
 unfold pan at hH
 simp only [madeV, pan]
 try unfold Cp.val at *
 have A0 : At ((w.alloc (.cells #[.int .u8 46, .int .i64 A, .int .i64 B, .int .i64 C, .int .i64 m] 64)).alloc (.cells (List.toArray [Value.int .u64 0, .int .u64 0, .int .u64 0, .int .u8 0, .int .i64 0]) 35)) w.heap.size #[.int .u8 46, .int .i64 A, .int .i64 B, .int .i64 C, .int .i64 m] := (At.new w #[.int .u8 46, .int .i64 A, .int .i64 B, .int .i64 C, .int .i64 m] 64).alloc _
 have A1 : At ((w.alloc (.cells #[.int .u8 46, .int .i64 A, .int .i64 B, .int .i64 C, .int .i64 m] 64)).alloc (.cells (List.toArray [Value.int .u64 0, .int .u64 0, .int .u64 0, .int .u8 0, .int .i64 0]) 35)) (w.alloc (.cells #[.int .u8 46, .int .i64 A, .int .i64 B, .int .i64 C, .int .i64 m] 64)).heap.size (List.toArray [Value.int .u64 0, .int .u64 0, .int .u64 0, .int .u8 0, .int .i64 0]) := At.new (w.alloc (.cells #[.int .u8 46, .int .i64 A, .int .i64 B, .int .i64 C, .int .i64 m] 64)) (List.toArray [Value.int .u64 0, .int .u64 0, .int .u64 0, .int .u8 0, .int .i64 0]) 35
 have g0 : Bl w ((w.alloc (.cells #[.int .u8 46, .int .i64 A, .int .i64 B, .int .i64 C, .int .i64 m] 64)).alloc (.cells (List.toArray [Value.int .u64 0, .int .u64 0, .int .u64 0, .int .u8 0, .int .i64 0]) 35)) := ((Bl.refl w).alloc _).alloc _
 have hk : w.heap.size ≤ (w.alloc (.cells #[.int .u8 46, .int .i64 A, .int .i64 B, .int .i64 C, .int .i64 m] 64)).heap.size := by simp
 have hsz : (w.alloc (.cells #[.int .u8 46, .int .i64 A, .int .i64 B, .int .i64 C, .int .i64 m] 64)).heap.size = w.heap.size + 1 := by simp
 rw [hsz] at A1 hk
 replace A0 := Hz.mk A0
 replace A1 := Hz.mk A1
 replace hk := Hz.mk hk
 replace g0 := Hz.mk g0
 clear hsz hg
 go_enter Tryz.func92, Tryz.ntmps92
 go_upto_region 1 with fail
 refine wp_world (fun W => At W w.heap.size #[.int .u8 46, .int .i64 A, .int .i64 B, .int .i64 C, .int .i64 m] ∧ At W (w.heap.size + 1) (List.toArray [Value.int .u64 0, .int .u64 0, .int .u64 0, .int .u8 0, .int .i64 0]) ∧ Bl w W) ⟨A0.out, A1.out, g0.out⟩ ?_
 clear A0 A1 g0
 rintro W ⟨A0, A1, g0⟩
 have hn0 : Hz (w.heap.size ≠ w.heap.size + 1) := Hz.mk (by omega)
 generalize w.heap.size + 1 = kr at *
 have c2 : W.cell? ⟨w.heap.size, 2, none⟩ = some (.int .i64 B) := A0.2.1 2
 replace A0 := Hz.mk A0
 replace A1 := Hz.mk A1
 replace g0 := Hz.mk g0
 go_wp2_with (refine (hH.out _ g0.out).mono ?_; rintro r X1 ⟨rfl, e1⟩)
 exact ⟨rfl, rfl, g0.out.trans e1⟩
theorem made46_c (a A B C : Nat) (m : Int) (v u : Vl) (w : World) (hv : RgAt w a B v) (hu : RgAt w a C u) (_hs : v.c.s < 9223372036854775808) (hg : v.g = true) (hg2 : u.g = false) :
   Calls Tryz.prog 92 #[.pointer (some ⟨a, 0, none⟩), insA 46 A B C m] w fun x w' => x = madeV (madeR 46 m v u) ∧ Bl w w' := by
 have er : madeR 46 m v u = .error (flt 1) := by unfold madeR; rw [hg, hg2]; rfl
 rw [er]
 clear er
 unfold insA
 have hH := Hz.mk (fun X g => held_okB a B v X (hv.bl g) hg)
 have h2 := Hz.mk (fun X g => held_badB a C u X (hu.bl g) hg2)
 unfold pan at h2
 simp only [madeV, pan]
 try unfold Cp.val at *
 have A0 : At ((w.alloc (.cells #[.int .u8 46, .int .i64 A, .int .i64 B, .int .i64 C, .int .i64 m] 64)).alloc (.cells (List.toArray [Value.int .u64 0, .int .u64 0, .int .u64 0, .int .u8 0, .int .i64 0]) 35)) w.heap.size #[.int .u8 46, .int .i64 A, .int .i64 B, .int .i64 C, .int .i64 m] := (At.new w #[.int .u8 46, .int .i64 A, .int .i64 B, .int .i64 C, .int .i64 m] 64).alloc _
 have A1 : At ((w.alloc (.cells #[.int .u8 46, .int .i64 A, .int .i64 B, .int .i64 C, .int .i64 m] 64)).alloc (.cells (List.toArray [Value.int .u64 0, .int .u64 0, .int .u64 0, .int .u8 0, .int .i64 0]) 35)) (w.alloc (.cells #[.int .u8 46, .int .i64 A, .int .i64 B, .int .i64 C, .int .i64 m] 64)).heap.size (List.toArray [Value.int .u64 0, .int .u64 0, .int .u64 0, .int .u8 0, .int .i64 0]) := At.new (w.alloc (.cells #[.int .u8 46, .int .i64 A, .int .i64 B, .int .i64 C, .int .i64 m] 64)) (List.toArray [Value.int .u64 0, .int .u64 0, .int .u64 0, .int .u8 0, .int .i64 0]) 35
 have g0 : Bl w ((w.alloc (.cells #[.int .u8 46, .int .i64 A, .int .i64 B, .int .i64 C, .int .i64 m] 64)).alloc (.cells (List.toArray [Value.int .u64 0, .int .u64 0, .int .u64 0, .int .u8 0, .int .i64 0]) 35)) := ((Bl.refl w).alloc _).alloc _
 have hk : w.heap.size ≤ (w.alloc (.cells #[.int .u8 46, .int .i64 A, .int .i64 B, .int .i64 C, .int .i64 m] 64)).heap.size := by simp
 have hsz : (w.alloc (.cells #[.int .u8 46, .int .i64 A, .int .i64 B, .int .i64 C, .int .i64 m] 64)).heap.size = w.heap.size + 1 := by simp
 rw [hsz] at A1 hk
 replace A0 := Hz.mk A0
 replace A1 := Hz.mk A1
 replace hk := Hz.mk hk
 replace g0 := Hz.mk g0
 clear hsz hg
 go_enter Tryz.func92, Tryz.ntmps92
 go_upto_region 1 with fail
 refine wp_world (fun W => At W w.heap.size #[.int .u8 46, .int .i64 A, .int .i64 B, .int .i64 C, .int .i64 m] ∧ At W (w.heap.size + 1) (List.toArray [Value.int .u64 0, .int .u64 0, .int .u64 0, .int .u8 0, .int .i64 0]) ∧ Bl w W) ⟨A0.out, A1.out, g0.out⟩ ?_
 clear A0 A1 g0
 rintro W ⟨A0, A1, g0⟩
 have hn0 : Hz (w.heap.size ≠ w.heap.size + 1) := Hz.mk (by omega)
 generalize w.heap.size + 1 = kr at *
 have c2 : W.cell? ⟨w.heap.size, 2, none⟩ = some (.int .i64 B) := A0.2.1 2
 replace A0 := Hz.mk A0
 replace A1 := Hz.mk A1
 replace g0 := Hz.mk g0
 go_wp2_with fail
 refine (hH.out _ g0.out).mono ?_
 rintro r X1 ⟨rfl, e1⟩
 replace A0 := Hz.mk (e1.at_ A0.out)
 replace A1 := Hz.mk (e1.at_ A1.out)
 replace g0 := Hz.mk (g0.out.trans e1)
 clear e1 c2 hH
 have hn6 : Hz (X1.heap.size ≠ kr) := Hz.mk (by have := A1.out.1; omega)
 go_upto_region 2 with fail
 refine wp_world (fun W => At W w.heap.size #[.int .u8 46, .int .i64 A, .int .i64 B, .int .i64 C, .int .i64 m] ∧ At W kr (List.toArray [Value.int .u64 0, .int .u64 0, .int .u64 0, .int .u8 0, .int .i64 0]) ∧ At W X1.heap.size (List.toArray [Value.int .u64 v.c.b, .int .u64 v.c.e, .int .u64 v.c.c, .int .u8 v.c.p, .int .i64 v.c.s]) ∧ Bl w W) ⟨A0.out.alloc _, A1.out.alloc _, At.new X1 (List.toArray [Value.int .u64 v.c.b, .int .u64 v.c.e, .int .u64 v.c.c, .int .u8 v.c.p, .int .i64 v.c.s]) 35, g0.out.alloc _⟩ ?_
 clear A0 A1 g0
 rintro Y ⟨A0, A1, A2, g0⟩
 generalize X1.heap.size = k6 at *
 have c0 : Y.cell? ⟨w.heap.size, 0, none⟩ = some (.int .u8 46) := A0.2.1 0
 replace A0 := Hz.mk A0
 replace A1 := Hz.mk A1
 replace A2 := Hz.mk A2
 replace g0 := Hz.mk g0
 go_upto_region 15 with fail
 clear c0
 replace A0 := Hz.mk ((Bl.refl Y).drew.at_ A0.out)
 replace A1 := Hz.mk ((Bl.refl Y).drew.at_ A1.out)
 replace A2 := Hz.mk ((Bl.refl Y).drew.at_ A2.out)
 replace g0 := Hz.mk g0.out.drew
 refine wp_region_held_drew (S := (fun X => X.rangeAt k6 0 [Value.int .u64 v.c.b, .int .u64 v.c.e, .int .u64 v.c.c, .int .u8 v.c.p, .int .i64 v.c.s] ∧ X.cell? ⟨w.heap.size, 3, none⟩ = some (.int .i64 C))) (by kernel_rfl) (⟨fun j x q => by rw [Nat.zero_add]; exact (A2.out.2.1 j).trans (by simpa using q), A0.out.2.1 3⟩) (fun hHeld => ?_)
 refine xtk 0 rfl (yieldsIf_load_mid (by rfl) _ _ rfl _ _ rfl _ _ (fun _ h => h.1) Tryz.underlying35 rfl (by kernel_rfl)) ?_
 try simp only [xap]
 refine xso 1 ?_ rfl ?_ (xso 2 ?_ rfl ?_ (xso 3 ?_ rfl ?_ ?_))
 iterate 3 (rotate_left; focus ((try simp only [xap]); intro w hSw; (try dsimp only at hSw); go_simp; first | done | with_reducible rfl))
 try simp only [xap]
 refine xrd 4 rfl (fun K hK => ?_)
 go_simp
 go_wp2_with (refine (h2.out _ g0.out).mono ?_; rintro r X3 ⟨rfl, e3⟩)
 exact ⟨rfl, rfl, g0.out.trans e3⟩
theorem made46_ok (a A B C : Nat) (m : Int) (v u : Vl) (w : World) (hv : RgAt w a B v) (hu : RgAt w a C u) (hs : v.c.s < 9223372036854775808) (hg : v.g = true) (hg2 : u.g = true) :
   Calls Tryz.prog 92 #[.pointer (some ⟨a, 0, none⟩), insA 46 A B C m] w fun x w' => x = madeV (madeR 46 m v u) ∧ Bl w w' := by
 have er : madeR 46 m v u = .ok (unsF v.c u.c) := by unfold madeR; rw [hg, hg2]; rfl
 rw [er]
 clear er
 unfold insA
 have hH := Hz.mk (fun X g => held_okB a B v X (hv.bl g) hg)
 have h2 := Hz.mk (fun X g => held_okB a C u X (hu.bl g) hg2)
 have h3 := Hz.mk (fun X => cwUns v.c u.c X hs)
 show Calls _ _ _ _ fun x w' => x = .returned (CfV (unsF v.c u.c)) ∧ Bl w w'
 generalize unsF v.c u.c = rr at *
 obtain ⟨rc, rf⟩ := rr
 unfold CfV at h3 ⊢
 simp only at h3 ⊢
 try unfold Cp.val at *
 have A0 : At ((w.alloc (.cells #[.int .u8 46, .int .i64 A, .int .i64 B, .int .i64 C, .int .i64 m] 64)).alloc (.cells (List.toArray [Value.int .u64 0, .int .u64 0, .int .u64 0, .int .u8 0, .int .i64 0]) 35)) w.heap.size #[.int .u8 46, .int .i64 A, .int .i64 B, .int .i64 C, .int .i64 m] := (At.new w #[.int .u8 46, .int .i64 A, .int .i64 B, .int .i64 C, .int .i64 m] 64).alloc _
 have A1 : At ((w.alloc (.cells #[.int .u8 46, .int .i64 A, .int .i64 B, .int .i64 C, .int .i64 m] 64)).alloc (.cells (List.toArray [Value.int .u64 0, .int .u64 0, .int .u64 0, .int .u8 0, .int .i64 0]) 35)) (w.alloc (.cells #[.int .u8 46, .int .i64 A, .int .i64 B, .int .i64 C, .int .i64 m] 64)).heap.size (List.toArray [Value.int .u64 0, .int .u64 0, .int .u64 0, .int .u8 0, .int .i64 0]) := At.new (w.alloc (.cells #[.int .u8 46, .int .i64 A, .int .i64 B, .int .i64 C, .int .i64 m] 64)) (List.toArray [Value.int .u64 0, .int .u64 0, .int .u64 0, .int .u8 0, .int .i64 0]) 35
 have g0 : Bl w ((w.alloc (.cells #[.int .u8 46, .int .i64 A, .int .i64 B, .int .i64 C, .int .i64 m] 64)).alloc (.cells (List.toArray [Value.int .u64 0, .int .u64 0, .int .u64 0, .int .u8 0, .int .i64 0]) 35)) := ((Bl.refl w).alloc _).alloc _
 have hk : w.heap.size ≤ (w.alloc (.cells #[.int .u8 46, .int .i64 A, .int .i64 B, .int .i64 C, .int .i64 m] 64)).heap.size := by simp
 have hsz : (w.alloc (.cells #[.int .u8 46, .int .i64 A, .int .i64 B, .int .i64 C, .int .i64 m] 64)).heap.size = w.heap.size + 1 := by simp
 rw [hsz] at A1 hk
 replace A0 := Hz.mk A0
 replace A1 := Hz.mk A1
 replace hk := Hz.mk hk
 replace g0 := Hz.mk g0
 clear hsz hg
 go_enter Tryz.func92, Tryz.ntmps92
 go_upto_region 1 with fail
 refine wp_world (fun W => At W w.heap.size #[.int .u8 46, .int .i64 A, .int .i64 B, .int .i64 C, .int .i64 m] ∧ At W (w.heap.size + 1) (List.toArray [Value.int .u64 0, .int .u64 0, .int .u64 0, .int .u8 0, .int .i64 0]) ∧ Bl w W) ⟨A0.out, A1.out, g0.out⟩ ?_
 clear A0 A1 g0
 rintro W ⟨A0, A1, g0⟩
 have hn0 : Hz (w.heap.size ≠ w.heap.size + 1) := Hz.mk (by omega)
 generalize w.heap.size + 1 = kr at *
 have c2 : W.cell? ⟨w.heap.size, 2, none⟩ = some (.int .i64 B) := A0.2.1 2
 replace A0 := Hz.mk A0
 replace A1 := Hz.mk A1
 replace g0 := Hz.mk g0
 go_wp2_with fail
 refine (hH.out _ g0.out).mono ?_
 rintro r X1 ⟨rfl, e1⟩
 replace A0 := Hz.mk (e1.at_ A0.out)
 replace A1 := Hz.mk (e1.at_ A1.out)
 replace g0 := Hz.mk (g0.out.trans e1)
 clear e1 c2 hH
 have hn6 : Hz (X1.heap.size ≠ kr) := Hz.mk (by have := A1.out.1; omega)
 go_upto_region 2 with fail
 refine wp_world (fun W => At W w.heap.size #[.int .u8 46, .int .i64 A, .int .i64 B, .int .i64 C, .int .i64 m] ∧ At W kr (List.toArray [Value.int .u64 0, .int .u64 0, .int .u64 0, .int .u8 0, .int .i64 0]) ∧ At W X1.heap.size (List.toArray [Value.int .u64 v.c.b, .int .u64 v.c.e, .int .u64 v.c.c, .int .u8 v.c.p, .int .i64 v.c.s]) ∧ Bl w W) ⟨A0.out.alloc _, A1.out.alloc _, At.new X1 (List.toArray [Value.int .u64 v.c.b, .int .u64 v.c.e, .int .u64 v.c.c, .int .u8 v.c.p, .int .i64 v.c.s]) 35, g0.out.alloc _⟩ ?_
 clear A0 A1 g0
 rintro Y ⟨A0, A1, A2, g0⟩
 generalize X1.heap.size = k6 at *
 have c0 : Y.cell? ⟨w.heap.size, 0, none⟩ = some (.int .u8 46) := A0.2.1 0
 replace A0 := Hz.mk A0
 replace A1 := Hz.mk A1
 replace A2 := Hz.mk A2
 replace g0 := Hz.mk g0
 go_upto_region 15 with fail
 clear c0
 replace A0 := Hz.mk ((Bl.refl Y).drew.at_ A0.out)
 replace A1 := Hz.mk ((Bl.refl Y).drew.at_ A1.out)
 replace A2 := Hz.mk ((Bl.refl Y).drew.at_ A2.out)
 replace g0 := Hz.mk g0.out.drew
 refine wp_region_held_drew (S := (fun X => X.rangeAt k6 0 [Value.int .u64 v.c.b, .int .u64 v.c.e, .int .u64 v.c.c, .int .u8 v.c.p, .int .i64 v.c.s] ∧ X.cell? ⟨w.heap.size, 3, none⟩ = some (.int .i64 C))) (by kernel_rfl) (⟨fun j x q => by rw [Nat.zero_add]; exact (A2.out.2.1 j).trans (by simpa using q), A0.out.2.1 3⟩) (fun hHeld => ?_)
 refine xtk 0 rfl (yieldsIf_load_mid (by rfl) _ _ rfl _ _ rfl _ _ (fun _ h => h.1) Tryz.underlying35 rfl (by kernel_rfl)) ?_
 try simp only [xap]
 refine xso 1 ?_ rfl ?_ (xso 2 ?_ rfl ?_ (xso 3 ?_ rfl ?_ ?_))
 iterate 3 (rotate_left; focus ((try simp only [xap]); intro w hSw; (try dsimp only at hSw); go_simp; first | done | with_reducible rfl))
 try simp only [xap]
 refine xrd 4 rfl (fun K hK => ?_)
 go_simp
 go_wp2_with (refine (h2.out _ g0.out).mono ?_; rintro r X3 ⟨rfl, e3⟩; replace A0 := Hz.mk (e3.at_ A0.out); replace A1 := Hz.mk (e3.at_ A1.out); replace A2 := Hz.mk (e3.at_ A2.out); replace g0 := Hz.mk (g0.out.trans e3); clear e3 hHeld)
 refine hK.out _ _ ⟨fun j x q => by rw [Nat.zero_add]; exact (A2.out.2.1 j).trans (by simpa using q), A0.out.2.1 3⟩ (fun hHeld => ?_)
 clear hK K
 try simp only [xap]
 refine xrd 5 rfl (fun K hK => ?_)
 go_simp
 go_wp2_with (refine (h3.out _).mono ?_; rintro r X4 ⟨rfl, e4⟩; replace A0 := Hz.mk (e4.at_ A0.out); replace A1 := Hz.mk (e4.at_ A1.out); replace A2 := Hz.mk (e4.at_ A2.out); replace g0 := Hz.mk (g0.out.trans e4); clear e4 hHeld)
 refine hK.out _ _ ⟨fun j x q => by rw [Nat.zero_add]; exact (A2.out.2.1 j).trans (by simpa using q), A0.out.2.1 3⟩ (fun hHeld => ?_)
 clear hK K
 try simp only [xap]
 refine xso 6 ?_ rfl ?_ (xso 7 ?_ rfl ?_ ?_)
 iterate 2 (rotate_left; focus ((try simp only [xap]); intro w hSw; (try dsimp only at hSw); go_simp; first | done | with_reducible rfl))
 try simp only [xap]
 refine xrd 8 rfl (fun K hK => ?_)
 rw [if_pos (by rfl)]
 refine wp_store_mid _ _ _ rfl _ _ (List.toArray [Value.int .u64 rc.b, .int .u64 rc.e, .int .u64 rc.c, .int .u8 rc.p, .int .i64 rc.s]) rfl rfl (At.there A1.out 0 5 (by decide)) (by kernel_rfl) (by simp [Value.oneCell']) ?_
 refine hK.out _ _ ⟨fun j x q => by rw [Nat.zero_add]; exact ((A2.out.other hn6.out 0 _).2.1 j).trans (by simpa using q), (A0.out.other hn0.out 0 _).2.1 3⟩ (fun hHeld => ?_)
 clear hK K
 try simp only [Act.put]
 refine xso 9 ?_ rfl ?_ ?_
 rotate_left
 · intro w hSw; (try dsimp only at hSw); go_simp; first | done | with_reducible rfl
 try simp only [xap]
 refine xdn ?_ _
 clear hHeld
 have A9 := Hz.mk (At.setAll (cs := [Value.int .u64 0, .int .u64 0, .int .u64 0, .int .u8 0, .int .i64 0]) A1.out [Value.int .u64 rc.b, .int .u64 rc.e, .int .u64 rc.c, .int .u8 rc.p, .int .i64 rc.s] rfl)
 have g9 := Hz.mk (g0.out.sets kr hk.out [Value.int .u64 rc.b, .int .u64 rc.e, .int .u64 rc.c, .int .u8 rc.p, .int .i64 rc.s] 0)
 try simp only [Act.put]
 generalize World.setCells _ _ _ _ = V9 at *
 have ⟨_, q4, _⟩ := A9.out
 go_wp2_with fail
 simp [bodyPost, results, Tryz.results92, go_sem, q4]
 exact g9.out
end C
end Go.Proofs.YtiigpncfmakgjaaGreatDoor


namespace Go.Proofs.YtiigpncfmakgjaaGreatDoor
set_option maxRecDepth 100000
set_option maxHeartbeats 40000000
namespace C
open Go.RowKit
open T (Sep Ob Kp Mf TgIn boxOb Fm Tc Ed Vl Cp Bx tgOb mRow updV flt)

theorem made_any (a : Nat) (op : Int) (A B C : Nat) (m : Int) (v u : Vl) (w : World) (hv : RgAt w a B v) (hu : RgAt w a C u) (hs : v.c.s < 9223372036854775808) (hop : 40 ≤ op ∧ op ≤ 46) :
   Calls Tryz.prog 92 #[.pointer (some ⟨a, 0, none⟩), insA op A B C m] w fun x w' => x = madeV (madeR op m v u) ∧ Bl w w' := by
 have ho : op = 40 ∨ op = 41 ∨ op = 42 ∨ op = 43 ∨ op = 44 ∨ op = 45 ∨ op = 46 := by omega
 cases hg : v.g with
 | false =>
   rcases ho with rfl | rfl | rfl | rfl | rfl | rfl | rfl
   · exact made40_b a A B C m v u w hv hu hg
   · exact made41_b a A B C m v u w hv hu hg
   · exact made42_b a A B C m v u w hv hu hg
   · exact made43_b a A B C m v u w hv hu hg
   · exact made44_b a A B C m v u w hv hu hg
   · exact made45_b a A B C m v u w hv hu hg
   · exact made46_b a A B C m v u w hv hu hs hg
 | true =>
   cases hg2 : u.g with
   | false =>
     rcases ho with rfl | rfl | rfl | rfl | rfl | rfl | rfl
     · exact made40_ok a A B C m v u w hv hu hg hg2
     · exact made41_ok a A B C m v u w hv hu hg
     · exact made42_ok a A B C m v u w hv hu hg hg2
     · exact made43_ok a A B C m v u w hv hu hg
     · exact made44_ok a A B C m v u w hv hu hg
     · exact made45_c a A B C m v u w hv hu hg hg2
     · exact made46_c a A B C m v u w hv hu hs hg hg2
   | true =>
     rcases ho with rfl | rfl | rfl | rfl | rfl | rfl | rfl
     · exact made40_c a A B C m v u w hv hu hg hg2
     · exact made41_ok a A B C m v u w hv hu hg
     · exact made42_c a A B C m v u w hv hu hg hg2
     · exact made43_ok a A B C m v u w hv hu hg
     · exact made44_ok a A B C m v u w hv hu hg
     · exact made45_ok a A B C m v u w hv hu hg hg2
     · exact made46_ok a A B C m v u w hv hu hs hg hg2
def derR (op m : Int) (v u : Vl) : Except Ed Cp := match madeR op m v u with
 | .error e => .error e
 | .ok r => if r.2 = 0 then .ok r.1 else .error (flt r.2)
def CpV : Except Ed Cp → Ending
 | .ok c => .returned (Cp.val c)
 | .error e => pan e
theorem derived_any (a : Nat) (op : Int) (A B C : Nat) (m : Int) (v u : Vl) (w : World) (hv : RgAt w a B v) (hu : RgAt w a C u) (hs : v.c.s < 9223372036854775808) (hop : 40 ≤ op ∧ op ≤ 46) :
   Calls Tryz.prog 58 #[.pointer (some ⟨a, 0, none⟩), insA op A B C m] w fun x w' => x = CpV (derR op m v u) ∧ Bl w w' := by
 have hM := Hz.mk (fun X (g : Bl w X) => made_any a op A B C m v u X (hv.bl g) (hu.bl g) hs hop)
 unfold derR
 clear hv hu hs hop
 generalize madeR op m v u = q at *
 unfold insA at *
 cases q with
 | error e =>
   simp only [CpV, madeV, pan] at hM ⊢
   have A0 : At ((w.alloc (.cells #[.int .u8 op, .int .i64 A, .int .i64 B, .int .i64 C, .int .i64 m] 64)).alloc (.cells (List.toArray [Value.int .u64 0, .int .u64 0, .int .u64 0, .int .u8 0, .int .i64 0]) 35)) w.heap.size #[.int .u8 op, .int .i64 A, .int .i64 B, .int .i64 C, .int .i64 m] := (At.new w #[.int .u8 op, .int .i64 A, .int .i64 B, .int .i64 C, .int .i64 m] 64).alloc _
   have A1 : At ((w.alloc (.cells #[.int .u8 op, .int .i64 A, .int .i64 B, .int .i64 C, .int .i64 m] 64)).alloc (.cells (List.toArray [Value.int .u64 0, .int .u64 0, .int .u64 0, .int .u8 0, .int .i64 0]) 35)) (w.alloc (.cells #[.int .u8 op, .int .i64 A, .int .i64 B, .int .i64 C, .int .i64 m] 64)).heap.size (List.toArray [Value.int .u64 0, .int .u64 0, .int .u64 0, .int .u8 0, .int .i64 0]) := At.new (w.alloc (.cells #[.int .u8 op, .int .i64 A, .int .i64 B, .int .i64 C, .int .i64 m] 64)) (List.toArray [Value.int .u64 0, .int .u64 0, .int .u64 0, .int .u8 0, .int .i64 0]) 35
   have g0 : Bl w ((w.alloc (.cells #[.int .u8 op, .int .i64 A, .int .i64 B, .int .i64 C, .int .i64 m] 64)).alloc (.cells (List.toArray [Value.int .u64 0, .int .u64 0, .int .u64 0, .int .u8 0, .int .i64 0]) 35)) := ((Bl.refl w).alloc _).alloc _
   have hk : w.heap.size ≤ (w.alloc (.cells #[.int .u8 op, .int .i64 A, .int .i64 B, .int .i64 C, .int .i64 m] 64)).heap.size := by simp
   have hsz : (w.alloc (.cells #[.int .u8 op, .int .i64 A, .int .i64 B, .int .i64 C, .int .i64 m] 64)).heap.size = w.heap.size + 1 := by simp
   rw [hsz] at A1 hk
   replace A0 := Hz.mk A0
   replace A1 := Hz.mk A1
   replace hk := Hz.mk hk
   replace g0 := Hz.mk g0
   clear hsz
   go_enter Tryz.func58, Tryz.ntmps58
   go_upto_region 1 with fail
   refine wp_world (fun W => At W w.heap.size #[.int .u8 op, .int .i64 A, .int .i64 B, .int .i64 C, .int .i64 m] ∧ At W (w.heap.size + 1) (List.toArray [Value.int .u64 0, .int .u64 0, .int .u64 0, .int .u8 0, .int .i64 0]) ∧ Bl w W) ⟨A0.out, A1.out, g0.out⟩ ?_
   clear A0 A1 g0
   rintro W ⟨A0, A1, g0⟩
   generalize w.heap.size + 1 = kr at *
   have ⟨_, p0, _⟩ := A0
   replace A1 := Hz.mk A1
   replace g0 := Hz.mk g0
   go_wp2_with (refine (hM.out _ g0.out).mono ?_; rintro r X1 ⟨rfl, e1⟩)
   exact ⟨rfl, rfl, g0.out.trans e1⟩
 | ok r =>
   obtain ⟨c, f⟩ := r
   simp only [madeV, CfV] at hM
   simp only
   by_cases hf : f = 0
   · subst hf
     rw [if_pos rfl]
     simp only [CpV, Cp.val]
     have hA := Hz.mk allow_ok
     have A0 : At ((w.alloc (.cells #[.int .u8 op, .int .i64 A, .int .i64 B, .int .i64 C, .int .i64 m] 64)).alloc (.cells (List.toArray [Value.int .u64 0, .int .u64 0, .int .u64 0, .int .u8 0, .int .i64 0]) 35)) w.heap.size #[.int .u8 op, .int .i64 A, .int .i64 B, .int .i64 C, .int .i64 m] := (At.new w #[.int .u8 op, .int .i64 A, .int .i64 B, .int .i64 C, .int .i64 m] 64).alloc _
     have A1 : At ((w.alloc (.cells #[.int .u8 op, .int .i64 A, .int .i64 B, .int .i64 C, .int .i64 m] 64)).alloc (.cells (List.toArray [Value.int .u64 0, .int .u64 0, .int .u64 0, .int .u8 0, .int .i64 0]) 35)) (w.alloc (.cells #[.int .u8 op, .int .i64 A, .int .i64 B, .int .i64 C, .int .i64 m] 64)).heap.size (List.toArray [Value.int .u64 0, .int .u64 0, .int .u64 0, .int .u8 0, .int .i64 0]) := At.new (w.alloc (.cells #[.int .u8 op, .int .i64 A, .int .i64 B, .int .i64 C, .int .i64 m] 64)) (List.toArray [Value.int .u64 0, .int .u64 0, .int .u64 0, .int .u8 0, .int .i64 0]) 35
     have g0 : Bl w ((w.alloc (.cells #[.int .u8 op, .int .i64 A, .int .i64 B, .int .i64 C, .int .i64 m] 64)).alloc (.cells (List.toArray [Value.int .u64 0, .int .u64 0, .int .u64 0, .int .u8 0, .int .i64 0]) 35)) := ((Bl.refl w).alloc _).alloc _
     have hk : w.heap.size ≤ (w.alloc (.cells #[.int .u8 op, .int .i64 A, .int .i64 B, .int .i64 C, .int .i64 m] 64)).heap.size := by simp
     have hsz : (w.alloc (.cells #[.int .u8 op, .int .i64 A, .int .i64 B, .int .i64 C, .int .i64 m] 64)).heap.size = w.heap.size + 1 := by simp
     rw [hsz] at A1 hk
     replace A0 := Hz.mk A0
     replace A1 := Hz.mk A1
     replace hk := Hz.mk hk
     replace g0 := Hz.mk g0
     clear hsz
     go_enter Tryz.func58, Tryz.ntmps58
     go_upto_region 1 with fail
     refine wp_world (fun W => At W w.heap.size #[.int .u8 op, .int .i64 A, .int .i64 B, .int .i64 C, .int .i64 m] ∧ At W (w.heap.size + 1) (List.toArray [Value.int .u64 0, .int .u64 0, .int .u64 0, .int .u8 0, .int .i64 0]) ∧ Bl w W) ⟨A0.out, A1.out, g0.out⟩ ?_
     clear A0 A1 g0
     rintro W ⟨A0, A1, g0⟩
     generalize w.heap.size + 1 = kr at *
     have ⟨_, p0, _⟩ := A0
     replace A1 := Hz.mk A1
     replace g0 := Hz.mk g0
     go_wp2_with fail
     refine (hM.out _ g0.out).mono ?_
     rintro r X1 ⟨rfl, e1⟩
     replace A1 := Hz.mk (e1.at_ A1.out)
     replace g0 := Hz.mk (g0.out.trans e1)
     clear e1 p0 A0 hM
     have hn6 : Hz (X1.heap.size ≠ kr) := Hz.mk (by have := A1.out.1; omega)
     go_upto_region 2 with fail
     refine wp_world (fun W => At W kr (List.toArray [Value.int .u64 0, .int .u64 0, .int .u64 0, .int .u8 0, .int .i64 0]) ∧ At W X1.heap.size (List.toArray [Value.int .u64 c.b, .int .u64 c.e, .int .u64 c.c, .int .u8 c.p, .int .i64 c.s]) ∧ Bl w W) ⟨A1.out.alloc _, At.new X1 (List.toArray [Value.int .u64 c.b, .int .u64 c.e, .int .u64 c.c, .int .u8 c.p, .int .i64 c.s]) 35, g0.out.alloc _⟩ ?_
     clear A1 g0
     rintro Y ⟨A1, A2, g0⟩
     generalize X1.heap.size = k6 at *
     replace A1 := Hz.mk A1
     replace g0 := Hz.mk g0
     replace A2 := Hz.mk A2
     go_wp2_with fail
     refine (hA.out _).mono ?_
     rintro r Y1 ⟨rfl, rfl⟩
     have ⟨_, p1, f1⟩ := A1.out
     have ⟨_, p2, _⟩ := A2.out
     have l1 := A1.out.1
     go_wp2_with fail
     have A9 := At.setAll (cs := [Value.int .u64 0, .int .u64 0, .int .u64 0, .int .u8 0, .int .i64 0]) A1.out [Value.int .u64 c.b, .int .u64 c.e, .int .u64 c.c, .int .u8 c.p, .int .i64 c.s] rfl
     have g9 := g0.out.sets kr hk.out [Value.int .u64 c.b, .int .u64 c.e, .int .u64 c.c, .int .u8 c.p, .int .i64 c.s] 0
     have ⟨_, q4, _⟩ := A9
     simp only [World.setCells] at q4 g9
     simp [bodyPost, results, Tryz.results58, go_sem, q4]
     exact g9
   · rw [if_neg hf]
     have hA := Hz.mk (fun X => allow_bad f X hf)
     simp only [CpV, pan] at hA ⊢
     have A0 : At ((w.alloc (.cells #[.int .u8 op, .int .i64 A, .int .i64 B, .int .i64 C, .int .i64 m] 64)).alloc (.cells (List.toArray [Value.int .u64 0, .int .u64 0, .int .u64 0, .int .u8 0, .int .i64 0]) 35)) w.heap.size #[.int .u8 op, .int .i64 A, .int .i64 B, .int .i64 C, .int .i64 m] := (At.new w #[.int .u8 op, .int .i64 A, .int .i64 B, .int .i64 C, .int .i64 m] 64).alloc _
     have A1 : At ((w.alloc (.cells #[.int .u8 op, .int .i64 A, .int .i64 B, .int .i64 C, .int .i64 m] 64)).alloc (.cells (List.toArray [Value.int .u64 0, .int .u64 0, .int .u64 0, .int .u8 0, .int .i64 0]) 35)) (w.alloc (.cells #[.int .u8 op, .int .i64 A, .int .i64 B, .int .i64 C, .int .i64 m] 64)).heap.size (List.toArray [Value.int .u64 0, .int .u64 0, .int .u64 0, .int .u8 0, .int .i64 0]) := At.new (w.alloc (.cells #[.int .u8 op, .int .i64 A, .int .i64 B, .int .i64 C, .int .i64 m] 64)) (List.toArray [Value.int .u64 0, .int .u64 0, .int .u64 0, .int .u8 0, .int .i64 0]) 35
     have g0 : Bl w ((w.alloc (.cells #[.int .u8 op, .int .i64 A, .int .i64 B, .int .i64 C, .int .i64 m] 64)).alloc (.cells (List.toArray [Value.int .u64 0, .int .u64 0, .int .u64 0, .int .u8 0, .int .i64 0]) 35)) := ((Bl.refl w).alloc _).alloc _
     have hk : w.heap.size ≤ (w.alloc (.cells #[.int .u8 op, .int .i64 A, .int .i64 B, .int .i64 C, .int .i64 m] 64)).heap.size := by simp
     have hsz : (w.alloc (.cells #[.int .u8 op, .int .i64 A, .int .i64 B, .int .i64 C, .int .i64 m] 64)).heap.size = w.heap.size + 1 := by simp
     rw [hsz] at A1 hk
     replace A0 := Hz.mk A0
     replace A1 := Hz.mk A1
     replace hk := Hz.mk hk
     replace g0 := Hz.mk g0
     clear hsz
     go_enter Tryz.func58, Tryz.ntmps58
     go_upto_region 1 with fail
     refine wp_world (fun W => At W w.heap.size #[.int .u8 op, .int .i64 A, .int .i64 B, .int .i64 C, .int .i64 m] ∧ At W (w.heap.size + 1) (List.toArray [Value.int .u64 0, .int .u64 0, .int .u64 0, .int .u8 0, .int .i64 0]) ∧ Bl w W) ⟨A0.out, A1.out, g0.out⟩ ?_
     clear A0 A1 g0
     rintro W ⟨A0, A1, g0⟩
     generalize w.heap.size + 1 = kr at *
     have ⟨_, p0, _⟩ := A0
     replace A1 := Hz.mk A1
     replace g0 := Hz.mk g0
     go_wp2_with fail
     refine (hM.out _ g0.out).mono ?_
     rintro r X1 ⟨rfl, e1⟩
     replace g0 := Hz.mk (g0.out.trans e1)
     clear e1 p0 A0 hM A1
     go_wp2_with fail
     refine (hA.out _).mono ?_
     rintro r Y1 ⟨rfl, rfl⟩
     exact ⟨rfl, rfl, g0.out.alloc _⟩
end C
end Go.Proofs.YtiigpncfmakgjaaGreatDoor
