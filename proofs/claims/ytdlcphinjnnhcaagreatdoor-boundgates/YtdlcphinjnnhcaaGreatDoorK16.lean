import Derived.Test.YtdlcphinjnnhcaaGreatDoorK08
import Derived.Test.YtdlcphinjnnhcaaGreatDoorK15
import Derived.Laws.MakeOwn
import Derived.Test.YtdlcphinjnnhcaaGreatDoorK11
import Derived.Test.YtdlcphinjnnhcaaGreatDoorK14
namespace Go.Proofs.YtdlcphinjnnhcaaGreatDoor
set_option maxRecDepth 100000
set_option maxHeartbeats 40000000
namespace Bd
open Go.RowKit
open T (Kp)

structure Cst where
 s : Int
 c : Int
 i : Int
def tupc : Option Cst → Value
 | some v => .tuple #[.agg #[.bool true, .int .u64 v.s, .int .u64 v.c, .int .u64 v.i], .bool true]
 | none => .tuple #[.agg #[.bool false, .int .u64 0, .int .u64 0, .int .u64 0], .bool false]
def encc : Option Cst → Value
 | some v => .agg #[.bool true, .int .u64 v.s, .int .u64 v.c, .int .u64 v.i, .bool true]
 | none => .agg #[.bool false, .int .u64 0, .int .u64 0, .int .u64 0, .bool false]
theorem hitc_some (p : Pl) (hp : p.qf = 40) (n : Nat) (hn : n < 4611686018427387904) (M : Nat → Option (Option Cst)) (nn : Nat) (v : Cst) (hM : M n = some (some v)) (w : World) (hR : Rem p encc w nn M) (Q : World → Prop) (hQ : ∀ w', Rem p encc w' nn M → Kp (fun k => k = p.b) w w' → Q w') :
   Calls Tryz.prog p.qf #[.int .i64 n, pv p.kA, pv p.kF, pv p.kQ] w fun r w' => r = .returned (tupc (some v)) ∧ Q w' := by
 have hR0 := hR.below ((Below.refl _ w).alloc (Nat.le_refl _) (.cells #[.bool false, .int .u64 0, .int .u64 0, .int .u64 0] 36))
 have hl0 : (Instr.lookup 99 (.map (some p.b)) (.int .i64 n) true).run Tryz.prog (w.alloc (.cells #[.bool false, .int .u64 0, .int .u64 0, .int .u64 0] 36)) = .ok (.tuple #[.agg #[.bool true, .int .u64 v.s, .int .u64 v.c, .int .u64 v.i, .bool true], .bool true]) (w.alloc (.cells #[.bool false, .int .u64 0, .int .u64 0, .int .u64 0] 36)) := by
   have := hR0.m.look (t := 99) (e := 101) (by kernel_rfl) (z := .agg #[.bool false, .int .u64 0, .int .u64 0, .int .u64 0, .bool false]) (by kernel_rfl) n hn
   rw [hM] at this
   exact this
 have a0 : w.cell? ⟨p.kA, 0, none⟩ = some (.map (some p.b)) := hR.a.2.1 0
 have lta := hR.a.1
 replace hR := Hz.mk hR
 clear hM hn hR0
 rw [hp]
 unfold pv tupc
 go_enter Tryz.func40, Tryz.ntmps40
 go_wp2_with fail
 go_region
 all_goals
   go_wp2_with fail
   refine bodyPost_ret (v := .tuple #[.agg #[.bool true, .int .u64 v.s, .int .u64 v.c, .int .u64 v.i], .bool true]) (by simp [results, Tryz.results40, go_sem]) rfl ?_
   refine ⟨rfl, ?_⟩
   refine hQ _ (hR.out.below ?_) (Kp.of_below ?_) <;> repeat (first | exact Below.refl _ _ | refine Below.alloc ?_ (by simp <;> omega) _ | refine Below.setCell ?_ (by simp <;> omega) _ | refine Below.drew ?_)
theorem hitc_none (p : Pl) (hp : p.qf = 40) (n : Nat) (hn : n < 4611686018427387904) (M : Nat → Option (Option Cst)) (nn : Nat) (hM : M n = some (none)) (w : World) (hR : Rem p encc w nn M) (Q : World → Prop) (hQ : ∀ w', Rem p encc w' nn M → Kp (fun k => k = p.b) w w' → Q w') :
   Calls Tryz.prog p.qf #[.int .i64 n, pv p.kA, pv p.kF, pv p.kQ] w fun r w' => r = .returned (tupc (none)) ∧ Q w' := by
 have hR0 := hR.below ((Below.refl _ w).alloc (Nat.le_refl _) (.cells #[.bool false, .int .u64 0, .int .u64 0, .int .u64 0] 36))
 have hl0 : (Instr.lookup 99 (.map (some p.b)) (.int .i64 n) true).run Tryz.prog (w.alloc (.cells #[.bool false, .int .u64 0, .int .u64 0, .int .u64 0] 36)) = .ok (.tuple #[.agg #[.bool false, .int .u64 0, .int .u64 0, .int .u64 0, .bool false], .bool true]) (w.alloc (.cells #[.bool false, .int .u64 0, .int .u64 0, .int .u64 0] 36)) := by
   have := hR0.m.look (t := 99) (e := 101) (by kernel_rfl) (z := .agg #[.bool false, .int .u64 0, .int .u64 0, .int .u64 0, .bool false]) (by kernel_rfl) n hn
   rw [hM] at this
   exact this
 have a0 : w.cell? ⟨p.kA, 0, none⟩ = some (.map (some p.b)) := hR.a.2.1 0
 have lta := hR.a.1
 replace hR := Hz.mk hR
 clear hM hn hR0
 rw [hp]
 unfold pv tupc
 go_enter Tryz.func40, Tryz.ntmps40
 go_wp2_with fail
 go_region
 all_goals
   go_wp2_with fail
   refine bodyPost_ret (v := .tuple #[.agg #[.bool false, .int .u64 0, .int .u64 0, .int .u64 0], .bool false]) (by simp [results, Tryz.results40, go_sem]) rfl ?_
   refine ⟨rfl, ?_⟩
   refine hQ _ (hR.out.below ?_) (Kp.of_below ?_) <;> repeat (first | exact Below.refl _ _ | refine Below.alloc ?_ (by simp <;> omega) _ | refine Below.setCell ?_ (by simp <;> omega) _ | refine Below.drew ?_)
theorem missc_some (km : Nat) (p : Pl) (hp : p.qf = 40) (hf : p.fv = .func (.func 28) #[] #[pv km]) (nx : Nat → List Nat) (f : Nat → List Cst → Option Cst) (U : List Nat) (S : Nat → Prop) (n : Nat) (hn : n < 4611686018427387904) (M : Nat → Option (Option Cst)) (nn : Nat) (v : Cst) (hM : M n = none) (w : World) (hR : Rem p encc w nn M) (hnn : nn + 1 + 2 * left U (setM M n none) ≤ 1000000)
   (hfd : ∀ W, Rem p encc W (nn + 1) (setM M n none) → Kp (fun k => k = p.b) w W → Calls Tryz.prog 28 (#[.int .i64 n, p.qv] ++ #[pv km]) W fun r w' => r = .returned (tupc (some v)) ∧ Aft p encc nx f U S (setM M n none) (nn + 1) W w') :
   Calls Tryz.prog p.qf #[.int .i64 n, pv p.kA, pv p.kF, pv p.kQ] w fun r w' => r = .returned (tupc (some v)) ∧ ∃ M' nn', Rem p encc w' (nn' + 1) (setM M' n (some v)) ∧ Memo nx f U S M' ∧ More (setM M n none) M' ∧ nn' + 2 * left U M' ≤ nn + 1 + 2 * left U (setM M n none) ∧ Kp (fun k => k = p.b) w w' := by
 have hR0 := hR.below ((Below.refl _ w).alloc (Nat.le_refl _) (.cells (List.toArray [Value.bool false, .int .u64 0, .int .u64 0, .int .u64 0]) 36))
 have hl0 : (Instr.lookup 99 (.map (some p.b)) (.int .i64 n) true).run Tryz.prog (w.alloc (.cells (List.toArray [Value.bool false, .int .u64 0, .int .u64 0, .int .u64 0]) 36)) = .ok (.tuple #[.agg #[.bool false, .int .u64 0, .int .u64 0, .int .u64 0, .bool false], .bool false]) (w.alloc (.cells (List.toArray [Value.bool false, .int .u64 0, .int .u64 0, .int .u64 0]) 36)) := by
   have := hR0.m.look (t := 99) (e := 101) (by kernel_rfl) (z := .agg #[.bool false, .int .u64 0, .int .u64 0, .int .u64 0, .bool false]) (by kernel_rfl) n hn
   rw [hM] at this
   exact this
 have a0 : w.cell? ⟨p.kA, 0, none⟩ = some (.map (some p.b)) := hR.a.2.1 0
 have lta := hR.a.1
 have hbb := hR.m.lt
 replace hR := Hz.mk hR
 replace hfd := Hz.mk hfd
 replace hf := Hz.mk hf
 replace hnn := Hz.mk hnn
 clear hM hR0
 rw [hp]
 unfold pv tupc
 go_enter Tryz.func40, Tryz.ntmps40
 go_upto_region 4 with fail
 refine wp_world (fun W => Below (w.alloc (.cells (List.toArray [Value.bool false, .int .u64 0, .int .u64 0, .int .u64 0]) 36)).heap.size (w.alloc (.cells (List.toArray [Value.bool false, .int .u64 0, .int .u64 0, .int .u64 0]) 36)) W) (by repeat (first | exact Below.refl _ _ | refine Below.alloc ?_ (by simp <;> omega) _ | refine Below.setCell ?_ (by simp <;> omega) _)) ?_
 intro W hB0
 have hB : Below w.heap.size w W := Below.trans (Below.alloc (Below.refl _ _) (Nat.le_refl _) _) (hB0.mono (by simp))
 have r0 := at_keep (At.new w (List.toArray [Value.bool false, .int .u64 0, .int .u64 0, .int .u64 0]) 36) (Kp.of_below (S := fun _ => False) hB0) id
 clear hl0 a0 hB0
 have hR1 := hR.out.below hB
 have a0 : W.cell? ⟨p.kA, 0, none⟩ = some (.map (some p.b)) := hR1.a.2.1 0
 have hm1 := Hz.mk hR1.m
 replace hR1 := Hz.mk hR1
 replace hB := Hz.mk hB
 have hne : Hz (¬ w.heap.size = p.b) := Hz.mk (by omega)
 replace r0 := Hz.mk r0
 go_upto_region 5 with (at_mapUpdate; refine wpList_put rfl _ _ _ _ 101 rfl (by kernel_rfl) p.b nn encc M rfl hm1.out (by have := hnn.out; unfold maxLen; omega) n hn none rfl rfl ?_; intro W2 hm2 hk2)
 clear a0
 have hR2 := hR1.out.turn hk2 hm2
 have a0 : W2.cell? ⟨p.kA, 0, none⟩ = some (.map (some p.b)) := hR2.a.2.1 0
 have f0 : W2.cell? ⟨p.kF, 0, none⟩ = some p.fv := hR2.f.2.1 0
 have q0 : W2.cell? ⟨p.kQ, 0, none⟩ = some p.qv := hR2.q.2.1 0
 rw [hf.out] at f0
 have hkw : Kp (fun k => k = p.b) w W2 := (Kp.of_below hB.out).trans hk2 (fun k q => .inl q)
 have hc := hfd.out W2 hR2 hkw
 replace hc : Calls Tryz.prog 28 #[.int .i64 n, p.qv, .pointer (some ⟨km, 0, none⟩)] W2 _ := hc
 unfold tupc at hc
 replace r0 := Hz.mk (at_keep r0.out hk2 hne.out)
 replace hkw := Hz.mk hkw
 replace hR2 := Hz.mk hR2
 replace hc := Hz.mk hc
 clear hm1 hm2 hk2 hR1
 unfold pv at f0
 go_upto_region 6 with (go_at_call 28; refine hc.out.mono ?_; rintro r W3 ⟨rfl, M', nn', hR3, hS3, hmo, hle, hk3⟩)
 clear a0 f0 q0
 have r3 := at_keep r0.out hk3 hne.out
 have hk33 := hkw.out.trans hk3 (fun k q => .inl q)
 have hw3 := hk33.size
 refine wp_world (fun X => Below W3.heap.size W3 X ∧ At X W3.heap.size (List.toArray [Value.bool true, .int .u64 v.s, .int .u64 v.c, .int .u64 v.i])) ⟨(by repeat (first | exact Below.refl _ _ | refine Below.alloc ?_ (by simp <;> omega) _ | refine Below.setCell ?_ (by simp <;> omega) _)), At.new W3 (List.toArray [Value.bool true, .int .u64 v.s, .int .u64 v.c, .int .u64 v.i]) 36⟩ ?_
 rintro X ⟨hB3, r9⟩
 replace r3 := at_keep r3 (Kp.of_below (S := fun _ => False) hB3) id
 have hRX := hR3.below hB3
 have hkX := hk33.trans (Kp.of_below (S := fun k => k = p.b) hB3) (fun k q => .inl q)
 have hne9 : Hz (¬ W3.heap.size = p.b) := Hz.mk (by omega)
 clear hk3 hk33 hR3 r0 hB3
 generalize W3.heap.size = k9 at *
 have a0 : X.cell? ⟨p.kA, 0, none⟩ = some (.map (some p.b)) := hRX.a.2.1 0
 have ⟨_, p9, _⟩ := r9
 have hm3 := Hz.mk hRX.m
 replace hRX := Hz.mk hRX
 replace hle := Hz.mk hle
 replace hS3 := Hz.mk hS3
 replace hmo := Hz.mk hmo
 replace hkX := Hz.mk hkX
 replace r3 := Hz.mk r3
 replace r9 := Hz.mk r9
 go_upto_region 7 with (at_mapUpdate; refine wpList_put rfl _ _ _ _ 101 rfl (by kernel_rfl) p.b nn' encc M' rfl hm3.out (by have := hnn.out; have := hle.out; unfold maxLen; omega) n hn (some v) rfl rfl ?_; intro W4 hm4 hk4)
 clear a0 p9
 have hR4 := hRX.out.turn hk4 hm4
 have r4 := at_keep r3.out hk4 hne.out
 have r94 := at_keep r9.out hk4 hne9.out
 have hk44 := hkX.out.trans hk4 (fun k q => .inl q)
 have ⟨l4, p4, f4⟩ := r4
 have ⟨_, p9, _⟩ := r94
 have hfin := Hz.mk (At.setAll (cs := [Value.bool false, .int .u64 0, .int .u64 0, .int .u64 0]) r4 [Value.bool true, .int .u64 v.s, .int .u64 v.c, .int .u64 v.i] rfl)
 have hkf : Kp (fun k => k = w.heap.size) W4 (W4.setCells w.heap.size 0 [Value.bool true, .int .u64 v.s, .int .u64 v.c, .int .u64 v.i]) := kp_sets W4 w.heap.size [Value.bool true, .int .u64 v.s, .int .u64 v.c, .int .u64 v.i] 0
 have hRf := Hz.mk (hR4.above hR.out hkf (fun k q => by omega))
 have hKf := Hz.mk (hk44.trans hkf (fun k q => .inr (by omega)))
 clear hkf hk44 r4 r94 hR4 hk4 hm4
 go_wp2_with fail
 have ⟨_, q4, _⟩ := hfin.out
 simp only [World.setCells] at q4
 refine bodyPost_ret (v := .tuple #[.agg #[.bool true, .int .u64 v.s, .int .u64 v.c, .int .u64 v.i], .bool true]) (by simp [results, Tryz.results40, go_sem, q4]) rfl ?_
 exact ⟨rfl, M', nn', hRf.out, hS3.out, hmo.out, hle.out, hKf.out⟩
theorem missc_none (km : Nat) (p : Pl) (hp : p.qf = 40) (hf : p.fv = .func (.func 28) #[] #[pv km]) (nx : Nat → List Nat) (f : Nat → List Cst → Option Cst) (U : List Nat) (S : Nat → Prop) (n : Nat) (hn : n < 4611686018427387904) (M : Nat → Option (Option Cst)) (nn : Nat) (hM : M n = none) (w : World) (hR : Rem p encc w nn M) (hnn : nn + 1 + 2 * left U (setM M n none) ≤ 1000000)
   (hfd : ∀ W, Rem p encc W (nn + 1) (setM M n none) → Kp (fun k => k = p.b) w W → Calls Tryz.prog 28 (#[.int .i64 n, p.qv] ++ #[pv km]) W fun r w' => r = .returned (tupc (none)) ∧ Aft p encc nx f U S (setM M n none) (nn + 1) W w') :
   Calls Tryz.prog p.qf #[.int .i64 n, pv p.kA, pv p.kF, pv p.kQ] w fun r w' => r = .returned (tupc (none)) ∧ ∃ M' nn', Rem p encc w' (nn' + 1) (setM M' n (none)) ∧ Memo nx f U S M' ∧ More (setM M n none) M' ∧ nn' + 2 * left U M' ≤ nn + 1 + 2 * left U (setM M n none) ∧ Kp (fun k => k = p.b) w w' := by
 have hR0 := hR.below ((Below.refl _ w).alloc (Nat.le_refl _) (.cells (List.toArray [Value.bool false, .int .u64 0, .int .u64 0, .int .u64 0]) 36))
 have hl0 : (Instr.lookup 99 (.map (some p.b)) (.int .i64 n) true).run Tryz.prog (w.alloc (.cells (List.toArray [Value.bool false, .int .u64 0, .int .u64 0, .int .u64 0]) 36)) = .ok (.tuple #[.agg #[.bool false, .int .u64 0, .int .u64 0, .int .u64 0, .bool false], .bool false]) (w.alloc (.cells (List.toArray [Value.bool false, .int .u64 0, .int .u64 0, .int .u64 0]) 36)) := by
   have := hR0.m.look (t := 99) (e := 101) (by kernel_rfl) (z := .agg #[.bool false, .int .u64 0, .int .u64 0, .int .u64 0, .bool false]) (by kernel_rfl) n hn
   rw [hM] at this
   exact this
 have a0 : w.cell? ⟨p.kA, 0, none⟩ = some (.map (some p.b)) := hR.a.2.1 0
 have lta := hR.a.1
 have hbb := hR.m.lt
 replace hR := Hz.mk hR
 replace hfd := Hz.mk hfd
 replace hf := Hz.mk hf
 replace hnn := Hz.mk hnn
 clear hM hR0
 rw [hp]
 unfold pv tupc
 go_enter Tryz.func40, Tryz.ntmps40
 go_upto_region 4 with fail
 refine wp_world (fun W => Below (w.alloc (.cells (List.toArray [Value.bool false, .int .u64 0, .int .u64 0, .int .u64 0]) 36)).heap.size (w.alloc (.cells (List.toArray [Value.bool false, .int .u64 0, .int .u64 0, .int .u64 0]) 36)) W) (by repeat (first | exact Below.refl _ _ | refine Below.alloc ?_ (by simp <;> omega) _ | refine Below.setCell ?_ (by simp <;> omega) _)) ?_
 intro W hB0
 have hB : Below w.heap.size w W := Below.trans (Below.alloc (Below.refl _ _) (Nat.le_refl _) _) (hB0.mono (by simp))
 have r0 := at_keep (At.new w (List.toArray [Value.bool false, .int .u64 0, .int .u64 0, .int .u64 0]) 36) (Kp.of_below (S := fun _ => False) hB0) id
 clear hl0 a0 hB0
 have hR1 := hR.out.below hB
 have a0 : W.cell? ⟨p.kA, 0, none⟩ = some (.map (some p.b)) := hR1.a.2.1 0
 have hm1 := Hz.mk hR1.m
 replace hR1 := Hz.mk hR1
 replace hB := Hz.mk hB
 have hne : Hz (¬ w.heap.size = p.b) := Hz.mk (by omega)
 replace r0 := Hz.mk r0
 go_upto_region 5 with (at_mapUpdate; refine wpList_put rfl _ _ _ _ 101 rfl (by kernel_rfl) p.b nn encc M rfl hm1.out (by have := hnn.out; unfold maxLen; omega) n hn none rfl rfl ?_; intro W2 hm2 hk2)
 clear a0
 have hR2 := hR1.out.turn hk2 hm2
 have a0 : W2.cell? ⟨p.kA, 0, none⟩ = some (.map (some p.b)) := hR2.a.2.1 0
 have f0 : W2.cell? ⟨p.kF, 0, none⟩ = some p.fv := hR2.f.2.1 0
 have q0 : W2.cell? ⟨p.kQ, 0, none⟩ = some p.qv := hR2.q.2.1 0
 rw [hf.out] at f0
 have hkw : Kp (fun k => k = p.b) w W2 := (Kp.of_below hB.out).trans hk2 (fun k q => .inl q)
 have hc := hfd.out W2 hR2 hkw
 replace hc : Calls Tryz.prog 28 #[.int .i64 n, p.qv, .pointer (some ⟨km, 0, none⟩)] W2 _ := hc
 unfold tupc at hc
 replace r0 := Hz.mk (at_keep r0.out hk2 hne.out)
 replace hkw := Hz.mk hkw
 replace hR2 := Hz.mk hR2
 replace hc := Hz.mk hc
 clear hm1 hm2 hk2 hR1
 unfold pv at f0
 go_upto_region 6 with (go_at_call 28; refine hc.out.mono ?_; rintro r W3 ⟨rfl, M', nn', hR3, hS3, hmo, hle, hk3⟩)
 clear a0 f0 q0
 have r3 := at_keep r0.out hk3 hne.out
 have hk33 := hkw.out.trans hk3 (fun k q => .inl q)
 have hw3 := hk33.size
 refine wp_world (fun X => Below W3.heap.size W3 X ∧ At X W3.heap.size (List.toArray [Value.bool false, .int .u64 0, .int .u64 0, .int .u64 0])) ⟨(by repeat (first | exact Below.refl _ _ | refine Below.alloc ?_ (by simp <;> omega) _ | refine Below.setCell ?_ (by simp <;> omega) _)), At.new W3 (List.toArray [Value.bool false, .int .u64 0, .int .u64 0, .int .u64 0]) 36⟩ ?_
 rintro X ⟨hB3, r9⟩
 replace r3 := at_keep r3 (Kp.of_below (S := fun _ => False) hB3) id
 have hRX := hR3.below hB3
 have hkX := hk33.trans (Kp.of_below (S := fun k => k = p.b) hB3) (fun k q => .inl q)
 have hne9 : Hz (¬ W3.heap.size = p.b) := Hz.mk (by omega)
 clear hk3 hk33 hR3 r0 hB3
 generalize W3.heap.size = k9 at *
 have a0 : X.cell? ⟨p.kA, 0, none⟩ = some (.map (some p.b)) := hRX.a.2.1 0
 have ⟨_, p9, _⟩ := r9
 have hm3 := Hz.mk hRX.m
 replace hRX := Hz.mk hRX
 replace hle := Hz.mk hle
 replace hS3 := Hz.mk hS3
 replace hmo := Hz.mk hmo
 replace hkX := Hz.mk hkX
 replace r3 := Hz.mk r3
 replace r9 := Hz.mk r9
 go_upto_region 7 with (at_mapUpdate; refine wpList_put rfl _ _ _ _ 101 rfl (by kernel_rfl) p.b nn' encc M' rfl hm3.out (by have := hnn.out; have := hle.out; unfold maxLen; omega) n hn (none) rfl rfl ?_; intro W4 hm4 hk4)
 clear a0 p9
 have hR4 := hRX.out.turn hk4 hm4
 have r4 := at_keep r3.out hk4 hne.out
 have r94 := at_keep r9.out hk4 hne9.out
 have hk44 := hkX.out.trans hk4 (fun k q => .inl q)
 have ⟨l4, p4, f4⟩ := r4
 have ⟨_, p9, _⟩ := r94
 have hfin := Hz.mk (At.setAll (cs := [Value.bool false, .int .u64 0, .int .u64 0, .int .u64 0]) r4 [Value.bool false, .int .u64 0, .int .u64 0, .int .u64 0] rfl)
 have hkf : Kp (fun k => k = w.heap.size) W4 (W4.setCells w.heap.size 0 [Value.bool false, .int .u64 0, .int .u64 0, .int .u64 0]) := kp_sets W4 w.heap.size [Value.bool false, .int .u64 0, .int .u64 0, .int .u64 0] 0
 have hRf := Hz.mk (hR4.above hR.out hkf (fun k q => by omega))
 have hKf := Hz.mk (hk44.trans hkf (fun k q => .inr (by omega)))
 clear hkf hk44 r4 r94 hR4 hk4 hm4
 go_wp2_with fail
 have ⟨_, q4, _⟩ := hfin.out
 simp only [World.setCells] at q4
 refine bodyPost_ret (v := .tuple #[.agg #[.bool false, .int .u64 0, .int .u64 0, .int .u64 0], .bool false]) (by simp [results, Tryz.results40, go_sem, q4]) rfl ?_
 exact ⟨rfl, M', nn', hRf.out, hS3.out, hmo.out, hle.out, hKf.out⟩
theorem hitc_any (p : Pl) (hp : p.qf = 40) (n : Nat) (hn : n < 4611686018427387904) (M : Nat → Option (Option Cst)) (nn : Nat) (e : Option Cst) (hM : M n = some e) (w : World) (hR : Rem p encc w nn M) (Q : World → Prop) (hQ : ∀ w', Rem p encc w' nn M → Kp (fun k => k = p.b) w w' → Q w') :
   Calls Tryz.prog p.qf #[.int .i64 n, pv p.kA, pv p.kF, pv p.kQ] w fun r w' => r = .returned (tupc e) ∧ Q w' := by
 cases e with
 | some v => exact hitc_some p hp n hn M nn v hM w hR Q hQ
 | none => exact hitc_none p hp n hn M nn hM w hR Q hQ
theorem askc_any (km : Nat) (E : World → Prop) (p : Pl) (hp : p.qf = 40) (hf : p.fv = .func (.func 28) #[] #[pv km]) (hE : ∀ w w', E w → Kp (fun k => k = p.b) w w' → E w') (nx : Nat → List Nat) (f : Nat → List Cst → Option Cst) (U : List Nat) (hU : ∀ n ∈ U, n < 4611686018427387904)
   (hfind : ∀ d, AskC E p encc tupc nx f U d → FindC 28 #[pv km] E p encc tupc nx f U d) : ∀ d, AskC E p encc tupc nx f U d := by
 have hhit : ∀ (w : World) (n : Nat) (S : Nat → Prop) (M : Nat → Option (Option Cst)) (nn : Nat) (e : Option Cst), M n = some e → Rem p encc w nn M → Memo nx f U S M → (∀ q, S q → Anc nx f q n) → n ∈ U →
     Calls Tryz.prog p.qf #[.int .i64 n, pv p.kA, pv p.kF, pv p.kQ] w fun r w' => r = .returned (tupc (ev nx f U n)) ∧ Aft p encc nx f U S M nn w w' := by
   intro w n S M nn e hM hR hS hA hn
   rw [← hS.at_ hA hM]
   exact hitc_any p hp n (hU n hn) M nn e hM w hR _ (fun w' hR' hk => ⟨M, nn, hR', hS, More.refl M, Nat.le_refl _, hk⟩)
 intro d
 induction d with
 | zero =>
   intro w n S M nn hEw hR hS hA hn hl hb
   cases hM : M n with
   | some e => exact hhit w n S M nn e hM hR hS hA hn
   | none => exact absurd (left_set hn hM none) (by omega)
 | succ d ih =>
   intro w n S M nn hEw hR hS hA hn hl hb
   cases hM : M n with
   | some e => exact hhit w n S M nn e hM hR hS hA hn
   | none =>
     have hlt := left_set hn hM none
     have hfd := fun W (h2 : Rem p encc W (nn + 1) (setM M n none)) (h1 : Kp (fun k => k = p.b) w W) => hfind d ih W n S (setM M n none) (nn + 1) (hE w W hEw h1) h2 (hS.begin n) hA hn (by omega) (by omega)
     have hh : Calls Tryz.prog p.qf #[.int .i64 n, pv p.kA, pv p.kF, pv p.kQ] w fun r w' => r = .returned (tupc (ev nx f U n)) ∧ ∃ M' nn', Rem p encc w' (nn' + 1) (setM M' n (ev nx f U n)) ∧ Memo nx f U (fun x => S x ∨ x = n) M' ∧ More (setM M n none) M' ∧ nn' + 2 * left U M' ≤ nn + 1 + 2 * left U (setM M n none) ∧ Kp (fun k => k = p.b) w w' := by
       revert hfd
       cases ev nx f U n with
       | some v => exact fun hfd => missc_some km p hp hf nx f U _ n (hU n hn) M nn v hM w hR (by omega) hfd
       | none => exact fun hfd => missc_none km p hp hf nx f U _ n (hU n hn) M nn hM w hR (by omega) hfd
     refine hh.mono ?_
     rintro r w' ⟨e1, M', nn', h1, h2, h3, h4, h5⟩
     refine ⟨e1, setM M' n (ev nx f U n), nn' + 1, h1, h2.done _ rfl, ((More.set M n none).trans h3).trans (More.set _ _ _), ?_, h5⟩
     have := left_more (U := U) (More.set M' n (ev nx f U n))
     omega
theorem remc_any (km : Nat) (w : World) :
   Calls Tryz.prog 27 #[.func (.func 28) #[] #[.pointer (some ⟨km, 0, none⟩)]] w fun e w' => ∃ p : Pl, e = .returned p.qv ∧ p.qf = 40 ∧ p.fv = .func (.func 28) #[] #[pv km] ∧ Rem p encc w' 0 (fun _ => none) ∧ Below w.heap.size w w' ∧ w.heap.size ≤ p.b := by
 have hmm := @run_makeMap Tryz.prog
 have b1 : Below w.heap.size w (w.alloc (.cells #[.func (.func 28) #[] #[.pointer (some ⟨km, 0, none⟩)]] 77)) := (Below.refl _ w).alloc (Nat.le_refl _) _
 have b2 := b1.alloc b1.size (.map #[] 0)
 have b3 := b2.alloc b2.size (.cells #[.map (some (w.heap.size + 1))] 99)
 have b4 := b3.alloc b3.size (.cells #[.nilFunc] 73)
 have aF := (((At.new w #[.func (.func 28) #[] #[.pointer (some ⟨km, 0, none⟩)]] 77).alloc (.map #[] 0)).alloc (.cells #[.map (some (w.heap.size + 1))] 99)).alloc (.cells #[.nilFunc] 73)
 have aA := (At.new ((w.alloc (.cells #[.func (.func 28) #[] #[.pointer (some ⟨km, 0, none⟩)]] 77)).alloc (.map #[] 0)) #[.map (some (w.heap.size + 1))] 99).alloc (.cells #[.nilFunc] 73)
 have aQ := At.new (((w.alloc (.cells #[.func (.func 28) #[] #[.pointer (some ⟨km, 0, none⟩)]] 77)).alloc (.map #[] 0)).alloc (.cells #[.map (some (w.heap.size + 1))] 99)) #[.nilFunc] 73
 have aM : MpIn ((((w.alloc (.cells #[.func (.func 28) #[] #[.pointer (some ⟨km, 0, none⟩)]] 77)).alloc (.map #[] 0)).alloc (.cells #[.map (some (w.heap.size + 1))] 99)).alloc (.cells #[.nilFunc] 73)) (w.heap.size + 1) 0 encc (fun _ => none) := by
   have m0 := mp_made (w.alloc (.cells #[.func (.func 28) #[] #[.pointer (some ⟨km, 0, none⟩)]] 77)) encc
   have e : (w.alloc (.cells #[.func (.func 28) #[] #[.pointer (some ⟨km, 0, none⟩)]] 77)).heap.size = w.heap.size + 1 := by simp
   rw [e] at m0
   exact (m0.below ((Below.refl _ _).alloc (Nat.le_refl _) _)).below ((Below.refl _ _).alloc (Nat.le_refl _) _)
 have e2 : ((w.alloc (.cells #[.func (.func 28) #[] #[.pointer (some ⟨km, 0, none⟩)]] 77)).alloc (.map #[] 0)).heap.size = w.heap.size + 1 + 1 := by simp
 have e3 : (((w.alloc (.cells #[.func (.func 28) #[] #[.pointer (some ⟨km, 0, none⟩)]] 77)).alloc (.map #[] 0)).alloc (.cells #[.map (some (w.heap.size + 1))] 99)).heap.size = w.heap.size + 1 + 1 + 1 := by simp
 rw [e2] at aA
 rw [e3] at aQ
 replace aM := Hz.mk aM
 replace aA := Hz.mk aA
 replace aQ := Hz.mk aQ
 replace aF := Hz.mk aF
 replace b4 := Hz.mk b4
 clear b1 b2 b3 e2 e3
 go_enter Tryz.func27, Tryz.ntmps27
 go_upto_region 3 with fail
 refine wp_world (fun W => At W w.heap.size #[.func (.func 28) #[] #[.pointer (some ⟨km, 0, none⟩)]] ∧ At W (w.heap.size + 1 + 1) #[.map (some (w.heap.size + 1))] ∧ At W (w.heap.size + 1 + 1 + 1) #[.nilFunc] ∧ MpIn W (w.heap.size + 1) 0 encc (fun _ => none) ∧ Below w.heap.size w W) ⟨aF.out, aA.out, aQ.out, aM.out, b4.out⟩ ?_
 clear aF aA aQ aM b4 hmm
 rintro W ⟨aF, aA, aQ, aM, hB⟩
 have ⟨l3, p3, f3⟩ := aQ
 have hk := kp_sets W (w.heap.size + 1 + 1 + 1) [.func (.func 40) #[] #[.pointer (some ⟨w.heap.size + 1 + 1, 0, none⟩), .pointer (some ⟨w.heap.size, 0, none⟩), .pointer (some ⟨w.heap.size + 1 + 1 + 1, 0, none⟩)]] 0
 have hfin := Hz.mk (At.setAll (cs := [.nilFunc]) aQ [.func (.func 40) #[] #[.pointer (some ⟨w.heap.size + 1 + 1, 0, none⟩), .pointer (some ⟨w.heap.size, 0, none⟩), .pointer (some ⟨w.heap.size + 1 + 1 + 1, 0, none⟩)]] rfl)
 have gF := Hz.mk (at_keep aF hk (by omega))
 have gA := Hz.mk (at_keep aA hk (by omega))
 have gM := Hz.mk (aM.keep hk (by omega))
 have gB := Hz.mk (hB.trans (hk.below hB.size (fun k q => by omega)))
 clear hk aF aA aM
 replace hB := Hz.mk hB
 have hmf : ∀ (fn : Fn) (first cap : Array Value) (w : World), (Instr.makeFunc fn first cap).run Tryz.prog w = .ok (.func fn first cap) w := fun _ _ _ _ => rfl
 go_wp2_with fail
 have ⟨_, q3, _⟩ := hfin.out
 go_ret
 exact ⟨⟨w.heap.size + 1 + 1, w.heap.size, w.heap.size + 1 + 1 + 1, w.heap.size + 1, .func (.func 28) #[] #[.pointer (some ⟨km, 0, none⟩)], 40⟩, rfl, rfl, rfl, ⟨gA.out, gF.out, hfin.out, gM.out⟩, gB.out, by show w.heap.size ≤ w.heap.size + 1; omega⟩
end Bd
end Go.Proofs.YtdlcphinjnnhcaaGreatDoor


namespace Go.Proofs.YtdlcphinjnnhcaaGreatDoor
namespace Bd
open Go.RowKit
open T (Kp)

def cs4 : Option Cst → List Value
 | some v => [.bool true, .int .u64 v.s, .int .u64 v.c, .int .u64 v.i]
 | none => [.bool false, .int .u64 0, .int .u64 0, .int .u64 0]
theorem cs4_len (x : Option Cst) : (cs4 x).length = 4 := by cases x <;> rfl
structure Cr (w : World) (kr n : Nat) (F : Nat → Option Cst) : Prop where
 lt : kr < w.heap.size
 fr : ∀ o, w.frozen? ⟨kr, o, none⟩ = false
 c : ∀ g, g < n → ∀ i, i < 4 → w.cell? ⟨kr, g * 4 + i, none⟩ = (cs4 (F g))[i]?
theorem Cr.keep {S : Nat → Prop} {w w' : World} {kr n : Nat} {F : Nat → Option Cst} (h : Cr w kr n F) (hk : Kp S w w') (hn : ¬ S kr) : Cr w' kr n F := by
 have hb := hk.block kr h.lt hn
 refine ⟨Nat.lt_of_lt_of_le h.lt hk.size, fun o => ?_, fun g hg i hi => ?_⟩
 · rw [← h.fr o]; simp only [World.frozen?, hb]
 · rw [← h.c g hg i hi]; simp only [World.cell?, hb]
theorem Cr.new (w : World) (n : Nat) (t : TypeId) : Cr (w.alloc (.cells (madeCells (Value.cells (.agg #[.bool false, .int .u64 0, .int .u64 0, .int .u64 0])) (n * 4)) t)) w.heap.size n (fun _ => none) := by
 have a := At.new w (madeCells (Value.cells (.agg #[.bool false, .int .u64 0, .int .u64 0, .int .u64 0])) (n * 4)) t
 refine ⟨a.1, a.2.2, fun g hg i hi => ?_⟩
 rw [a.2.1]
 have h : g * 4 + i < n * 4 := by omega
 have hz : (Value.cells (.agg #[.bool false, .int .u64 0, .int .u64 0, .int .u64 0])) = #[.bool false, .int .u64 0, .int .u64 0, .int .u64 0] := by kernel_rfl
 rw [hz]
 simp only [madeCells, Array.getElem?_map, Array.getElem?_range, h, if_true, Option.map_some]
 have e : (g * 4 + i) % 4 = i := by omega
 show some (#[Value.bool false, .int .u64 0, .int .u64 0, .int .u64 0][(g * 4 + i) % 4]!) = _
 rw [e]
 obtain rfl | rfl | rfl | rfl : i = 0 ∨ i = 1 ∨ i = 2 ∨ i = 3 := by omega
 all_goals rfl
theorem Cr.put {w : World} {kr n : Nat} {F : Nat → Option Cst} (h : Cr w kr n F) {g : Nat} (hg : g < n) (x : Option Cst) : Cr (w.setCells kr (g * 4) (cs4 x)) kr n (fun q => if q = g then x else F q) := by
 refine ⟨?_, fun o => ?_, fun q hq i hi => ?_⟩
 · exact Nat.lt_of_lt_of_le h.lt (kp_sets w kr (cs4 x) (g * 4)).size
 · rw [World.frozen?_setCells]; exact h.fr o
 · by_cases e : q = g
   · subst e
     rw [if_pos rfl, World.cell?_setCells_in kr (cs4 x) _ w (fun j hj => by
       rw [cs4_len] at hj
       rw [h.c q hq j hj, List.getElem?_eq_getElem (by rw [cs4_len]; exact hj)]; rfl) i (by rw [cs4_len]; exact hi), List.getElem?_eq_getElem (by rw [cs4_len]; exact hi)]
   · rw [if_neg e, World.cell?_setCells_out kr _ _ w ⟨kr, q * 4 + i, none⟩ (fun _ _ => by rw [cs4_len]; show q * 4 + i < g * 4 ∨ g * 4 + 4 ≤ q * 4 + i; omega)]
     exact h.c q hq i hi
theorem make_costs (n : Nat) (hn : n ≤ 2000000) (w : World) : (Instr.makeSlice 78 (.int .i64 n) (.int .i64 n)).run Tryz.prog w = .ok (.slice (some ⟨w.heap.size, 0, none⟩) n n) (w.alloc (.cells (madeCells (Value.cells (.agg #[.bool false, .int .u64 0, .int .u64 0, .int .u64 0])) (n * 4)) 36)) := by
 obtain ⟨i0, hi0, hz0, hz1, hz2⟩ := F.info_parts' (t := 36) (z := .agg #[.bool false, .int .u64 0, .int .u64 0, .int .u64 0]) (s := 4) (b := 32) (by kernel_rfl)
 have h := run_make (P := Tryz.prog) w 78 36 i0 (.agg #[.bool false, .int .u64 0, .int .u64 0, .int .u64 0]) Tryz.underlying78 hi0 hz0 .i64 .i64 n n (by omega) (by omega) (by rw [hz2]; omega) (by omega)
 rw [hz1, Int.toNat_natCast] at h
 exact h
def sF (F : Nat → Option Cst) (g : Nat) : Int := match F g with | some v => v.s | none => 0
def iF (F : Nat → Option Cst) (g : Nat) : Int := match F g with | some v => v.i | none => 0
theorem Cr.costIn {w : World} {kr n B : Nat} {F : Nat → Option Cst} (h : Cr w kr n F) (hB : kr < B) : CostIn B w (some ⟨kr, 0, none⟩) n (sF F) (iF F) := by
 refine .inr ⟨kr, rfl, hB, h.lt, fun g hg => ?_⟩
 have c0 := h.c g hg 0 (by omega)
 have c1 := h.c g hg 1 (by omega)
 have c2 := h.c g hg 2 (by omega)
 have c3 := h.c g hg 3 (by omega)
 unfold sF iF
 cases hF : F g with
 | some v =>
   rw [hF] at c0 c1 c2 c3
   exact ⟨true, v.c, c0, c1, c2, c3⟩
 | none =>
   rw [hF] at c0 c1 c2 c3
   exact ⟨false, 0, c0, c1, c2, c3⟩
def mcL (l : List Cst) : Int := l.foldl (fun a d => max a (IntKind.u64.wrap (d.c + 1))) 0
theorem mcL_snoc (l : List Cst) (x : Cst) : mcL (l ++ [x]) = max (mcL l) (IntKind.u64.wrap (x.c + 1)) := by unfold mcL; rw [List.foldl_append]; rfl
def rowF (N : List Nat) (vs : List Cst) : Nat → Option Cst := (N.zip vs).foldl (fun F gv => fun q => if q = gv.1 then some gv.2 else F q) (fun _ => none)
theorem zip_snoc (x : Cst) : ∀ (N : List Nat) (vs : List Cst) (h : vs.length < N.length), N.zip (vs ++ [x]) = N.zip vs ++ [(N[vs.length], x)]
 | [], vs, h => by simp at h
 | a :: N, [], h => by simp
 | a :: N, v :: vs, h => by
   have h2 : vs.length < N.length := by simpa using h
   have := zip_snoc x N vs h2
   simp only [List.cons_append, List.zip_cons_cons, List.length_cons, List.getElem_cons_succ]
   rw [this]
theorem rowF_snoc (N : List Nat) (vs : List Cst) (x : Cst) (h : vs.length < N.length) : rowF N (vs ++ [x]) = fun q => if q = N[vs.length] then some x else rowF N vs q := by
 unfold rowF
 rw [zip_snoc x N vs h, List.foldl_append]
 rfl
noncomputable def ctF (m : PImg) (n : Nat) (vs : List Cst) : Option Cst :=
 match sumS (gcode m n) (stF (gcode m n) (sF (rowF (nxG m n) vs))) (gent m n).toNat with
 | none => none
 | some s => if 1099511627776 < s then none else some ⟨s, mcL vs, (sumS (gcode m n) (inF (gcode m n) (iF (rowF (nxG m n) vs))) (gent m n).toNat).getD 0⟩
end Bd
end Go.Proofs.YtdlcphinjnnhcaaGreatDoor


namespace Go.Proofs.YtdlcphinjnnhcaaGreatDoor
namespace Bd
open Go.RowKit
open F (thB nxtI folB Rch rchB rchB_iff folB_lt folB_lt')

theorem mx_go (l : List Int) : ∀ a b : Int, a ≤ b → (∀ x ∈ l, x ≤ b) → l.foldl max a ≤ b := by
 induction l with
 | nil => intro a b h _; exact h
 | cons x l ih => intro a b h hx; exact ih _ _ (by have := hx x (by simp); omega) (fun y hy => hx y (by simp [hy]))
theorem mxL_le {l : List Int} {b : Int} (h0 : 0 ≤ b) (h : ∀ x ∈ l, x ≤ b) : mxL l ≤ b := mx_go l 0 b h0 h
theorem mx_ge (l : List Int) : ∀ a : Int, a ≤ l.foldl max a ∧ ∀ x ∈ l, x ≤ l.foldl max a := by
 induction l with
 | nil => intro a; exact ⟨Int.le_refl _, fun x hx => by cases hx⟩
 | cons y l ih =>
   intro a
   obtain ⟨h1, h2⟩ := ih (max a y)
   refine ⟨by have : a ≤ max a y := by omega
              exact Int.le_trans this h1, fun x hx => ?_⟩
   rcases List.mem_cons.1 hx with rfl | hx
   · exact Int.le_trans (by omega) h1
   · exact h2 x hx
theorem mxL_nn (l : List Int) : 0 ≤ mxL l := (mx_ge l 0).1
theorem mxL_mem {l : List Int} {x : Int} (h : x ∈ l) : x ≤ mxL l := (mx_ge l 0).2 x h
theorem map_some {α β : Type} {f : α → Option β} {l : List α} {vs : List β} (h : l.map f = vs.map some) : (∀ c ∈ l, ∃ x ∈ vs, f c = some x) ∧ ∀ x ∈ vs, ∃ c ∈ l, f c = some x := by
 refine ⟨fun c hc => ?_, fun x hx => ?_⟩
 · have : f c ∈ l.map f := List.mem_map_of_mem hc
   rw [h] at this
   obtain ⟨x, hx, e⟩ := List.mem_map.1 this
   exact ⟨x, hx, e.symm⟩
 · have : some x ∈ vs.map some := List.mem_map_of_mem hx
   rw [← h] at this
   obtain ⟨c, hc, e⟩ := List.mem_map.1 this
   exact ⟨c, hc, e⟩
theorem map_turn {α β γ : Type} {f : α → Option β} {g : α → Option γ} (R : β → γ → Prop) (hR : ∀ c x, f c = some x → ∃ y, g c = some y ∧ R x y) : ∀ (l : List α) (vs : List β), l.map f = vs.map some → ∃ us : List γ, l.map g = us.map some ∧ ∀ u ∈ us, ∃ x ∈ vs, R x u
 | [], [], _ => ⟨[], rfl, fun u h => by cases h⟩
 | [], v :: vs, h => by cases h
 | c :: l, [], h => by cases h
 | c :: l, v :: vs, h => by
   rw [List.map_cons, List.map_cons] at h
   injection h with h1 h2
   obtain ⟨us, e1, e2⟩ := map_turn R hR l vs h2
   obtain ⟨y, e3, e4⟩ := hR c v h1
   refine ⟨y :: us, by rw [List.map_cons, List.map_cons, e1, e3], fun u hu => ?_⟩
   rcases List.mem_cons.1 hu with rfl | hu
   · exact ⟨v, by simp, e4⟩
   · obtain ⟨x, hx, q⟩ := e2 u hu
     exact ⟨x, by simp [hx], q⟩
theorem map_fun {α β γ : Type} {f : α → Option β} {g : α → Option γ} (t : β → γ) : ∀ (l : List α) (vs : List β), (∀ c ∈ l, ∀ x, f c = some x → g c = some (t x)) → l.map f = vs.map some → l.map g = (vs.map t).map some
 | [], [], _, _ => rfl
 | [], v :: vs, _, h => by cases h
 | c :: l, [], _, h => by cases h
 | c :: l, v :: vs, hR, h => by
   rw [List.map_cons, List.map_cons] at h
   injection h with h1 h2
   rw [List.map_cons, List.map_cons, List.map_cons, map_fun t l vs (fun c hc => hR c (by simp [hc])) h2, hR c (by simp) v h1]
theorem evF_get {α : Type} {nx : Nat → List Nat} {f : Nat → List α → Option α} {k n : Nat} {v : α} (h : evF nx f (k + 1) n = some v) : ∃ vs, (nx n).map (evF nx f k) = vs.map some ∧ f n vs = some v := by
 rw [evF, Option.bind_eq_some_iff] at h
 obtain ⟨vs, h1, h2⟩ := h
 exact ⟨vs, allV_get h1, h2⟩
theorem evF_put {α : Type} {nx : Nat → List Nat} {f : Nat → List α → Option α} {k n : Nat} {vs : List α} (h : (nx n).map (evF nx f k) = vs.map some) : evF nx f (k + 1) n = f n vs := by
 rw [evF, h, allV_of]; rfl
section
variable {L : List Ins} {cF : Nat → Int} (hc : ∀ pc, 0 ≤ cF pc ∧ cF pc ≤ 1099511627777)
include hc
theorem sum_get : ∀ k, k ≤ 1000 → ∀ pc v, evF (nxN L) (wyS cF) k pc = some v → 0 ≤ v ∧ v ≤ (k : Int) * 1099511627777
 | 0, _, _, _, h => by cases h
 | k + 1, hk, pc, v, h => by
   obtain ⟨vs, h1, h2⟩ := evF_get h
   have hb : mxL vs ≤ (k : Int) * 1099511627777 := mxL_le (by omega) (fun x hx => by
     obtain ⟨c, _, hcx⟩ := (map_some h1).2 x hx
     exact (sum_get k (by omega) c x hcx).2)
   have h0 := mxL_nn vs
   have := hc pc
   unfold wyS at h2
   rw [wrapU _ (by omega)] at h2
   injection h2 with h2
   omega
theorem sum_at {k : Nat} (hk : k < 1000) {pc : Nat} {v : Int} (h : evF (nxN L) (wyS cF) (k + 1) pc = some v) : ∃ vs, (nxN L pc).map (evF (nxN L) (wyS cF) k) = vs.map some ∧ v = cF pc + mxL vs := by
 obtain ⟨vs, h1, h2⟩ := evF_get h
 have hb : mxL vs ≤ (k : Int) * 1099511627777 := mxL_le (by omega) (fun x hx => by
   obtain ⟨c, _, hcx⟩ := (map_some h1).2 x hx
   exact (sum_get hc k (by omega) c x hcx).2)
 have h0 := mxL_nn vs
 have := hc pc
 refine ⟨vs, h1, ?_⟩
 unfold wyS at h2
 rw [wrapU _ (by omega)] at h2
 injection h2 with h2
 omega
theorem sum_ge {k : Nat} (hk : k < 1001) {pc : Nat} {v : Int} (h : evF (nxN L) (wyS cF) k pc = some v) : cF pc ≤ v := by
 cases k with
 | zero => cases h
 | succ k =>
   obtain ⟨vs, _, rfl⟩ := sum_at hc (by omega) h
   have := mxL_nn vs
   omega
theorem sum_rch {e : Int} {k : Nat} (hk : k < 1001) {en : Nat} (he : e = en) {v : Int} (h : evF (nxN L) (wyS cF) k en = some v) {q : Nat} (hr : Rch L [e] (-1) q) : ∃ j u, j ≤ k ∧ evF (nxN L) (wyS cF) j q = some u ∧ u ≤ v := by
 induction hr with
 | base h1 h2 h3 =>
   rename_i q
   have : q = en := by
     rw [List.mem_singleton] at h1
     omega
   subst this
   exact ⟨k, v, Nat.le_refl _, h, Int.le_refl _⟩
 | step h1 h2 h3 ih =>
   rename_i p q
   obtain ⟨j, u, g1, g2, g3⟩ := ih
   cases j with
   | zero => cases g2
   | succ j =>
     obtain ⟨vs, e1, e2⟩ := sum_at hc (by omega) g2
     have hm : q ∈ nxN L p := by
       unfold nxN
       refine List.mem_append.2 (.inl ?_)
       have ht : thB L.length p = true := by
         have := folB_lt' h2
         unfold thB
         simp only [Bool.and_eq_true, decide_eq_true_eq]
         omega
       rw [if_pos ht]
       exact List.mem_filter.2 ⟨List.mem_range.2 (folB_lt h2), h2⟩
     obtain ⟨x, hx, hcx⟩ := (map_some e1).1 q hm
     have := mxL_mem hx
     have := (hc p).1
     exact ⟨j, x, by omega, hcx, by omega⟩
theorem sum_below {dF : Nat → Int} (hd : ∀ pc, 0 ≤ dF pc ∧ dF pc ≤ cF pc) : ∀ k, k ≤ 1000 → ∀ pc v, evF (nxN L) (wyS cF) k pc = some v → ∃ u, evF (nxN L) (wyS dF) k pc = some u ∧ 0 ≤ u ∧ u ≤ v
 | 0, _, _, _, h => by cases h
 | k + 1, hk, pc, v, h => by
   have hd2 : ∀ pc, 0 ≤ dF pc ∧ dF pc ≤ 1099511627777 := fun p => by have := hd p; have := hc p; omega
   obtain ⟨vs, h1, h2⟩ := sum_at hc (by omega) h
   obtain ⟨us, e1, e2⟩ := map_turn (fun x u => 0 ≤ u ∧ u ≤ x) (fun c x hx => by
     obtain ⟨u, q1, q2, q3⟩ := sum_below hd k (by omega) c x hx
     exact ⟨u, q1, q2, q3⟩) _ _ h1
   have hb : mxL us ≤ mxL vs := mxL_le (mxL_nn vs) (fun u hu => by
     obtain ⟨x, hx, q⟩ := e2 u hu
     have := mxL_mem hx
     omega)
   have hv := sum_get hc (k + 1) hk pc v h
   have h0 := mxL_nn us
   have := hd pc
   refine ⟨dF pc + mxL us, ?_, by omega, by omega⟩
   rw [evF_put e1]
   unfold wyS
   rw [wrapU _ (by omega)]
end
theorem row_go {f : Nat → Option Cst} : ∀ (l : List (Nat × Cst)) (F : Nat → Option Cst), (∀ gv ∈ l, f gv.1 = some gv.2) → (∀ g x, F g = some x → f g = some x) → ∀ g x, l.foldl (fun F gv => fun q => if q = gv.1 then some gv.2 else F q) F g = some x → f g = some x
 | [], F, _, hF => hF
 | a :: l, F, hl, hF => row_go l _ (fun gv h => hl gv (by simp [h])) (fun g x h => by
   dsimp only at h
   split at h
   · rename_i e
     injection h with h
     rw [e, ← h]
     exact hl a (by simp)
   · exact hF g x h)
theorem row_in : ∀ (l : List (Nat × Cst)) (F : Nat → Option Cst) (g : Nat), (F g).isSome = true ∨ (∃ gv ∈ l, gv.1 = g) → (l.foldl (fun F gv => fun q => if q = gv.1 then some gv.2 else F q) F g).isSome = true
 | [], F, g, h => by
   rcases h with h | ⟨gv, h, _⟩
   · exact h
   · cases h
 | a :: l, F, g, h => row_in l _ g (by
   rcases h with h | ⟨gv, h, e⟩
   · left
     dsimp only
     split
     · rfl
     · exact h
   · rcases List.mem_cons.1 h with rfl | h
     · left
       dsimp only
       rw [if_pos e.symm]
       rfl
     · exact .inr ⟨gv, h, e⟩)
theorem zip_is {f : Nat → Option Cst} : ∀ (N : List Nat) (vs : List Cst), N.map f = vs.map some → (∀ gv ∈ N.zip vs, f gv.1 = some gv.2) ∧ ∀ g ∈ N, ∃ gv ∈ N.zip vs, gv.1 = g
 | [], [], _ => ⟨fun gv h => absurd h (by simp), fun g h => absurd h (by simp)⟩
 | [], v :: vs, h => by cases h
 | c :: l, [], h => by cases h
 | c :: l, v :: vs, h => by
   rw [List.map_cons, List.map_cons] at h
   injection h with h1 h2
   obtain ⟨q1, q2⟩ := zip_is l vs h2
   refine ⟨fun gv hg => ?_, fun g hg => ?_⟩
   · rw [List.zip_cons_cons] at hg
     rcases List.mem_cons.1 hg with rfl | hg
     · exact h1
     · exact q1 gv hg
   · rw [List.zip_cons_cons]
     rcases List.mem_cons.1 hg with rfl | hg
     · exact ⟨(g, v), List.mem_cons_self, rfl⟩
     · obtain ⟨gv, r1, r2⟩ := q2 g hg
       exact ⟨gv, by simp [r1], r2⟩
theorem rowF_is {f : Nat → Option Cst} {N : List Nat} {vs : List Cst} (h : N.map f = vs.map some) {g : Nat} {x : Cst} (hx : rowF N vs g = some x) : f g = some x :=
 row_go _ _ (zip_is N vs h).1 (fun _ _ h => by cases h) g x hx
theorem rowF_at {f : Nat → Option Cst} {N : List Nat} {vs : List Cst} (h : N.map f = vs.map some) {g : Nat} (hg : g ∈ N) {x : Cst} (hx : f g = some x) : rowF N vs g = some x := by
 have h1 := row_in (N.zip vs) (fun _ => none) g (.inr ((zip_is N vs h).2 g hg))
 obtain ⟨y, hy⟩ := Option.isSome_iff_exists.1 h1
 have h2 : rowF N vs g = some y := hy
 rw [h2]
 have := rowF_is h h2
 rw [hx] at this
 exact this.symm
structure Fair (v : Cst) : Prop where
 s1 : 1 ≤ v.s
 s2 : v.s ≤ 1099511627776
 c0 : 0 ≤ v.c
 c1 : v.c < v.s
 i0 : 0 ≤ v.i
 i1 : v.i ≤ v.s
theorem mc_go (b : Int) : ∀ (l : List Cst), (∀ x ∈ l, Fair x ∧ x.c + 1 ≤ b) → ∀ a, 0 ≤ a → a ≤ b → (l.map Cst.c).foldl (fun a d => max a (wrap64 (d + 1))) a = l.foldl (fun a d => max a (IntKind.u64.wrap (d.c + 1))) a ∧ 0 ≤ l.foldl (fun a d => max a (IntKind.u64.wrap (d.c + 1))) a ∧ l.foldl (fun a d => max a (IntKind.u64.wrap (d.c + 1))) a ≤ b
 | [], _, a, h0, hb => ⟨rfl, h0, hb⟩
 | x :: l, hl, a, h0, hb => by
   obtain ⟨hf, hx⟩ := hl x (by simp)
   have e1 : wrap64 (x.c + 1) = x.c + 1 := by have := hf.c0; have := hf.c1; have := hf.s2; unfold wrap64; omega
   have e2 : IntKind.u64.wrap (x.c + 1) = x.c + 1 := wrapU _ (by have := hf.c0; have := hf.c1; have := hf.s2; omega)
   simp only [List.map_cons, List.foldl_cons]
   rw [e1, e2]
   clear e1 e2
   exact mc_go b l (fun y hy => hl y (by simp [hy])) _ (by omega) (by omega)
theorem mc_dp {l : List Cst} {b : Int} (h0 : 0 ≤ b) (h : ∀ x ∈ l, Fair x ∧ x.c + 1 ≤ b) : dpL (l.map Cst.c) = mcL l ∧ 0 ≤ mcL l ∧ mcL l ≤ b := mc_go b l h 0 (Int.le_refl _) h0
theorem gate_fair {m : PImg} (hok : BOk m) : ∀ k, ∀ n ∈ List.range m.gates.length, ∀ v, evF (nxG m) (ctF m) k n = some v → evF (nxG m) dpF k n = some v.c ∧ Fair v
 | 0, _, _, _, h => by cases h
 | k + 1, n, hn, v, h => by
   obtain ⟨vs, h1, h2⟩ := evF_get h
   have hg := List.mem_range.1 hn
   obtain ⟨kc, hkc, hgc, he0, he1⟩ := hok.gates n hg
   obtain ⟨hlen, hcall⟩ := hok.code kc hkc
   have eL := gcode_of hg hkc hgc
   have eE := gent_of hg
   have hin := nxG_in hok n hn
   have ih := fun c (hc : c ∈ nxG m n) x hx => gate_fair hok k c (hin c hc) x hx
   have hvs : ∀ x ∈ vs, Fair x := fun x hx => by
     obtain ⟨c, hc, hcx⟩ := (map_some h1).2 x hx
     exact (ih c hc x hcx).2
   have hrow : ∀ g x, rowF (nxG m n) vs g = some x → Fair x := fun g x hx => by
     have hf : ∀ (l : List (Nat × Cst)) (F : Nat → Option Cst), (∀ gv ∈ l, Fair gv.2) → (∀ g x, F g = some x → Fair x) → ∀ g x, l.foldl (fun F gv => fun q => if q = gv.1 then some gv.2 else F q) F g = some x → Fair x := by
       intro l
       induction l with
       | nil => intro F _ hF; exact hF
       | cons a l ih2 =>
         intro F hl hF
         refine ih2 _ (fun gv h => hl gv (by simp [h])) (fun g x h => ?_)
         dsimp only at h
         split at h
         · injection h with h
           rw [← h]
           exact hl a (by simp)
         · exact hF g x h
     exact hf _ _ (fun gv hgv => hvs _ (List.of_mem_zip hgv).2) (fun _ _ h => by cases h) g x hx
   unfold ctF at h2
   rw [← eL] at hlen hcall he1
   rw [← eE] at he0 he1
   have hN : ∀ g ∈ nxG m n, ∃ pc, pc < (gcode m n).length ∧ Rch (gcode m n) [gent m n] (-1) pc ∧ ∃ k, (gcode m n)[pc]? = some k ∧ k.op = 31 ∧ k.m.toNat = g := by
     intro g hgm
     unfold nxG calL at hgm
     obtain ⟨pc, a1, a2⟩ := List.mem_map.1 hgm
     obtain ⟨a3, a4⟩ := List.mem_filter.1 a1
     rw [List.mem_range] at a3
     unfold calB at a4
     unfold imF at a2
     rw [List.getElem?_eq_getElem a3] at a2 a4
     simp only [Bool.and_eq_true, beq_iff_eq] at a4
     exact ⟨pc, a3, rchB_iff.1 a4.1, _, List.getElem?_eq_getElem a3, a4.2, a2⟩
   generalize hF : rowF (nxG m n) vs = F at *
   generalize gcode m n = L at *
   generalize gent m n = e at *
   have hs0 : ∀ g, 0 ≤ sF F g ∧ sF F g ≤ 1099511627776 ∧ 0 ≤ iF F g ∧ iF F g ≤ sF F g := fun g => by
     unfold sF iF
     cases hq : F g with
     | none => dsimp only; omega
     | some x =>
       have q := hrow g x hq
       exact ⟨by have := q.s1; show 0 ≤ x.s; omega, q.s2, q.i0, q.i1⟩
   have hca : ∀ pc, 0 ≤ caF L (sF F) pc ∧ caF L (sF F) pc ≤ 1099511627776 := fun pc => by
     unfold caF
     cases L[pc]? with
     | none => exact ⟨by show (0 : Int) ≤ 0; omega, by first | (show (0 : Int) ≤ 1099511627776; omega) | (dsimp only; omega)⟩
     | some i =>
       dsimp only
       split
       · exact ⟨(hs0 _).1, (hs0 _).2.1⟩
       · omega
   have hst : ∀ pc, stF L (sF F) pc = 1 + caF L (sF F) pc := fun pc => by
     have := hca pc
     unfold stF
     exact wrapU _ (by omega)
   have hcF : ∀ pc, 0 ≤ stF L (sF F) pc ∧ stF L (sF F) pc ≤ 1099511627777 := fun pc => by
     have := hca pc
     rw [hst]
     omega
   have hdF : ∀ pc, 0 ≤ inF L (iF F) pc ∧ inF L (iF F) pc ≤ stF L (sF F) pc := fun pc => by
     have h3 := hca pc
     rw [hst]
     unfold inF
     unfold caF at h3 ⊢
     cases L[pc]? with
     | none => exact ⟨by show (0 : Int) ≤ 0; omega, by first | (show (0 : Int) ≤ 1099511627776; omega) | (dsimp only; omega)⟩
     | some i =>
       dsimp only at h3 ⊢
       have := hs0 i.m.toNat
       split
       · first | omega | (split <;> omega)
       · split <;> omega
   obtain ⟨en, rfl⟩ : ∃ en : Nat, e = (en : Int) := ⟨e.toNat, by omega⟩
   rw [Int.toNat_natCast] at h2
   cases hs : sumS L (stF L (sF F)) en with
   | none => rw [hs] at h2; cases h2
   | some s =>
     rw [hs] at h2
     dsimp only at h2
     split at h2
     · cases h2
     · rename_i hbig
       injection h2 with h2
       have hfu : (List.range (L.length + 1)).length ≤ 1000 := by rw [List.length_range]; omega
       unfold sumS ev at hs
       have hge := sum_ge hcF (by omega) hs
       have hs1 : 1 ≤ s := by
         have := hca en
         rw [hst] at hge
         omega
       have hpre : ∀ x ∈ vs, Fair x ∧ x.c + 1 ≤ s - 1 := fun x hx => by
         refine ⟨hvs x hx, ?_⟩
         obtain ⟨c, hc, hcx⟩ := (map_some h1).2 x hx
         obtain ⟨pc, a1, a2, i, a3, a4, a5⟩ := hN c hc
         obtain ⟨j, u, b1, b2, b3⟩ := sum_rch hcF (by omega) rfl hs a2
         have b4 := sum_ge hcF (by omega) b2
         have hFc : F c = some x := by rw [← hF]; exact rowF_at h1 hc hcx
         have e3 : caF L (sF F) pc = x.s := by
           unfold caF
           rw [a3]
           show (if i.op = 31 then sF F i.m.toNat else 0) = x.s
           rw [if_pos a4, a5]
           unfold sF
           rw [hFc]
         rw [hst, e3] at b4
         have := (hvs x hx).c1
         omega
       obtain ⟨d1, d2, d3⟩ := mc_dp (by omega) hpre
       obtain ⟨u, i1, i2, i3⟩ := sum_below hcF hdF _ hfu en s hs
       have e5 : (sumS L (inF L (iF F)) en).getD 0 = u := by unfold sumS ev; rw [i1]; rfl
       rw [e5] at h2
       rw [← h2]
       refine ⟨?_, ⟨hs1, by show s ≤ 1099511627776; omega, d2, by show mcL vs < s; omega, i2, i3⟩⟩
       rw [evF_put (map_fun Cst.c _ _ (fun c hc x hx => (ih c hc x hx).1) h1)]
       unfold dpF
       rw [d1]
theorem agree {m : PImg} (hok : BOk m) {n : Nat} (hn : n ∈ List.range m.gates.length) {v : Cst} (h : ev (nxG m) (ctF m) (List.range m.gates.length) n = some v) : ev (nxG m) dpF (List.range m.gates.length) n = some v.c ∧ Fair v := gate_fair hok _ n hn v h
end Bd
end Go.Proofs.YtdlcphinjnnhcaaGreatDoor


namespace Go.Proofs.YtdlcphinjnnhcaaGreatDoor
namespace F
open Go.RowKit
open T

end F
end Go.Proofs.YtdlcphinjnnhcaaGreatDoor
