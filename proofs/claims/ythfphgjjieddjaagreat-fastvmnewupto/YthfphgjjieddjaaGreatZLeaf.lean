import Derived.Test.YthfphgjjieddjaaGreatZMac
import Derived.Deep.RegionHeld3
import Derived.BigFrame
namespace Go.Proofs.YthfphgjjieddjaaGreat
set_option maxRecDepth 100000
set_option maxHeartbeats 40000000
namespace Z
open Go.RowKit
open T (Sep Ob Kp Mf FlIn)

theorem kp_set1 {w w1 : World} {a : Nat} (h : Kp (fun k => k = a) w w1) (o : Nat) (v : Value) : Kp (fun k => k = a) w (w1.setCell ⟨a, o, none⟩ v) := h.trans (Kp.set (S := fun k => k = a) w1 ⟨a, o, none⟩ v rfl) (fun _ q => .inl q)
theorem next_any (a : Nat) (x : Fx) (w : World) (h : Bx w a x) (hp : x.p ≤ 1000000) :
   Calls Tryz.prog 113 #[.pointer (some ⟨a, 0, none⟩)] w fun r w' => r = .returned (.tuple #[]) ∧ Bo1 a x.next w w' := by
 have c5 : w.cell? ⟨a, 5, none⟩ = some (.int .i64 x.p) := h.at_ 5 (by omega)
 have f5 := h.fr 5
 have hlt := h.lt
 have hn : Bx (w.setCell ⟨a, 5, none⟩ (.int .i64 ((x.p : Int) + 1))) a x.next := h.pc (x.p + 1)
 replace h := Hz.mk h
 replace hn := Hz.mk hn
 go_enter Tryz.func113, Tryz.ntmps113
 go_wp2_with fail
 go_end0
 exact ⟨rfl, hn.out, kp_set1 (Kp.refl _ w) 5 _⟩
theorem a_any (a : Nat) (x : Fx) (i : Fi) (w : World) (h : Bx w a x) (hi : i.a < 16) :
   Calls Tryz.prog 115 #[.pointer (some ⟨a, 0, none⟩), .agg #[.int .u8 i.op, .int .i64 i.a, .int .i64 i.b, .int .i64 i.c, .int .u64 i.i]] w fun r w' => r = .returned (.int .u64 (x.r i.a)) ∧ Gr w w' := by
 have hlt := h.lt
 have hI : (i.a : Int) < 16 := by omega
 replace h := Hz.mk h
 go_enter Tryz.func115, Tryz.ntmps115
 go_upto_region 1 with fail
 refine wp_world (fun W => At W w.heap.size #[.int .u8 i.op, .int .i64 i.a, .int .i64 i.b, .int .i64 i.c, .int .u64 i.i] ∧ Gr w W) ⟨At.new w _ _, (Gr.refl _).alloc _⟩ ?_
 rintro W ⟨hA, G⟩
 have c1 : W.drew.cell? ⟨w.heap.size, 1, none⟩ = some (.int .i64 i.a) := (hA.gr ((Gr.refl W).drew)).2.1 1
 have c2 : W.drew.cell? ⟨a, 6 + i.a, none⟩ = some (.int .u64 (x.r i.a)) := by rw [← Fx.reg x i.a hi]; exact ((h.out.gr G).gr ((Gr.refl W).drew)).at_ _ (by omega)
 generalize w.heap.size = kb at *
 refine wp_region_held_drew (S := (fun W => W.cell? ⟨kb, 1, none⟩ = some (.int .i64 i.a) ∧ W.cell? ⟨a, 6 + i.a, none⟩ = some (.int .u64 (x.r i.a)))) (by kernel_rfl) (⟨c1, c2⟩) (fun hHeld => ?_)
 refine xso 0 ?_ rfl ?_ (xso 1 ?_ rfl ?_ (xso 2 ?_ rfl ?_ (xso 3 ?_ rfl ?_ (xso 4 ?_ rfl ?_ (xso 5 ?_ rfl ?_ (xso 6 ?_ rfl ?_ (xso 7 ?_ rfl ?_ (xso 8 ?_ rfl ?_ ?_))))))))
 iterate 9 (rotate_left; focus ((try simp only [xap]); intro w hSw; (try dsimp only at hSw); go_simp; first | done | with_reducible rfl))
 try simp only [xap]
 refine xdn ?_ _
 go_wp2_with fail
 go_ret
 exact ⟨rfl, G.drew⟩
theorem b_any (a : Nat) (x : Fx) (i : Fi) (w : World) (h : Bx w a x) (hi : i.b < 16) :
   Calls Tryz.prog 110 #[.pointer (some ⟨a, 0, none⟩), .agg #[.int .u8 i.op, .int .i64 i.a, .int .i64 i.b, .int .i64 i.c, .int .u64 i.i]] w fun r w' => r = .returned (.int .u64 (x.r i.b)) ∧ Gr w w' := by
 have hlt := h.lt
 have hI : (i.b : Int) < 16 := by omega
 replace h := Hz.mk h
 go_enter Tryz.func110, Tryz.ntmps110
 go_upto_region 1 with fail
 refine wp_world (fun W => At W w.heap.size #[.int .u8 i.op, .int .i64 i.a, .int .i64 i.b, .int .i64 i.c, .int .u64 i.i] ∧ Gr w W) ⟨At.new w _ _, (Gr.refl _).alloc _⟩ ?_
 rintro W ⟨hA, G⟩
 have c1 : W.drew.cell? ⟨w.heap.size, 2, none⟩ = some (.int .i64 i.b) := (hA.gr ((Gr.refl W).drew)).2.1 2
 have c2 : W.drew.cell? ⟨a, 6 + i.b, none⟩ = some (.int .u64 (x.r i.b)) := by rw [← Fx.reg x i.b hi]; exact ((h.out.gr G).gr ((Gr.refl W).drew)).at_ _ (by omega)
 generalize w.heap.size = kb at *
 refine wp_region_held_drew (S := (fun W => W.cell? ⟨kb, 2, none⟩ = some (.int .i64 i.b) ∧ W.cell? ⟨a, 6 + i.b, none⟩ = some (.int .u64 (x.r i.b)))) (by kernel_rfl) (⟨c1, c2⟩) (fun hHeld => ?_)
 refine xso 0 ?_ rfl ?_ (xso 1 ?_ rfl ?_ (xso 2 ?_ rfl ?_ (xso 3 ?_ rfl ?_ (xso 4 ?_ rfl ?_ (xso 5 ?_ rfl ?_ (xso 6 ?_ rfl ?_ (xso 7 ?_ rfl ?_ (xso 8 ?_ rfl ?_ ?_))))))))
 iterate 9 (rotate_left; focus ((try simp only [xap]); intro w hSw; (try dsimp only at hSw); go_simp; first | done | with_reducible rfl))
 try simp only [xap]
 refine xdn ?_ _
 go_wp2_with fail
 go_ret
 exact ⟨rfl, G.drew⟩
theorem c_any (a : Nat) (x : Fx) (i : Fi) (w : World) (h : Bx w a x) (hi : i.c < 16) :
   Calls Tryz.prog 111 #[.pointer (some ⟨a, 0, none⟩), .agg #[.int .u8 i.op, .int .i64 i.a, .int .i64 i.b, .int .i64 i.c, .int .u64 i.i]] w fun r w' => r = .returned (.int .u64 (x.r i.c)) ∧ Gr w w' := by
 have hlt := h.lt
 have hI : (i.c : Int) < 16 := by omega
 replace h := Hz.mk h
 go_enter Tryz.func111, Tryz.ntmps111
 go_upto_region 1 with fail
 refine wp_world (fun W => At W w.heap.size #[.int .u8 i.op, .int .i64 i.a, .int .i64 i.b, .int .i64 i.c, .int .u64 i.i] ∧ Gr w W) ⟨At.new w _ _, (Gr.refl _).alloc _⟩ ?_
 rintro W ⟨hA, G⟩
 have c1 : W.drew.cell? ⟨w.heap.size, 3, none⟩ = some (.int .i64 i.c) := (hA.gr ((Gr.refl W).drew)).2.1 3
 have c2 : W.drew.cell? ⟨a, 6 + i.c, none⟩ = some (.int .u64 (x.r i.c)) := by rw [← Fx.reg x i.c hi]; exact ((h.out.gr G).gr ((Gr.refl W).drew)).at_ _ (by omega)
 generalize w.heap.size = kb at *
 refine wp_region_held_drew (S := (fun W => W.cell? ⟨kb, 3, none⟩ = some (.int .i64 i.c) ∧ W.cell? ⟨a, 6 + i.c, none⟩ = some (.int .u64 (x.r i.c)))) (by kernel_rfl) (⟨c1, c2⟩) (fun hHeld => ?_)
 refine xso 0 ?_ rfl ?_ (xso 1 ?_ rfl ?_ (xso 2 ?_ rfl ?_ (xso 3 ?_ rfl ?_ (xso 4 ?_ rfl ?_ (xso 5 ?_ rfl ?_ (xso 6 ?_ rfl ?_ (xso 7 ?_ rfl ?_ (xso 8 ?_ rfl ?_ ?_))))))))
 iterate 9 (rotate_left; focus ((try simp only [xap]); intro w hSw; (try dsimp only at hSw); go_simp; first | done | with_reducible rfl))
 try simp only [xap]
 refine xdn ?_ _
 go_wp2_with fail
 go_ret
 exact ⟨rfl, G.drew⟩
theorem lay_any (a : Nat) (x : Fx) (k : Nat) (n : Int) (w : World) (h : Bx w a x) (hk : k < 16) (hp : x.p ≤ 1000000) :
   Calls Tryz.prog 109 #[.pointer (some ⟨a, 0, none⟩), .int .i64 k, .int .u64 n] w fun r w' => r = .returned (.tuple #[]) ∧ Bo1 a (x.lay k n) w w' := by
 have c5 : w.cell? ⟨a, 6 + k, none⟩ = some (.int .u64 (x.r k)) := by rw [← Fx.reg x k hk]; exact h.at_ _ (by omega)
 have f5 := h.fr (6 + k)
 have hlt := h.lt
 have hI : (k : Int) < 16 := by omega
 have hN := next_any a (x.put k n) (w.setCell ⟨a, 6 + k, none⟩ (.int .u64 n)) (h.reg k hk n) hp
 replace h := Hz.mk h
 replace hN := Hz.mk hN
 go_enter Tryz.func109, Tryz.ntmps109
 go_wp2_with fail
 refine hN.out.mono ?_
 rintro r w1 ⟨rfl, hB⟩
 replace hB := Hz.mk hB
 go_wp2_with fail
 go_end0
 exact ⟨rfl, hB.out.1, (kp_set1 (Kp.refl _ w) (6 + k) (.int .u64 n)).trans hB.out.2 (fun _ q => .inl q)⟩
theorem finish_any (a : Nat) (x : Fx) (e v : Int) (w : World) (h : Bx w a x) :
   Calls Tryz.prog 35 #[.pointer (some ⟨a, 0, none⟩), .int .i64 e, .int .u64 v] w fun r w' => r = .returned (.tuple #[]) ∧ Bo1 a (x.fin e v 0) w w' := by
 have c6 : w.cell? ⟨a, 26, none⟩ = some (.int .i64 x.e) := h.at_ 26 (by omega)
 have c7 : w.cell? ⟨a, 27, none⟩ = some (.int .u64 x.v) := h.at_ 27 (by omega)
 have c8 : w.cell? ⟨a, 28, none⟩ = some (.int .i64 x.f) := h.at_ 28 (by omega)
 have f6 := h.fr 26
 have f7 := h.fr 27
 have f8 := h.fr 28
 have hlt := h.lt
 have hn := ((h.e e).v v).f 0
 replace h := Hz.mk h
 replace hn := Hz.mk hn
 go_enter Tryz.func35, Tryz.ntmps35
 go_wp2_with fail
 go_end0
 exact ⟨rfl, hn.out, kp_set1 (kp_set1 (kp_set1 (Kp.refl _ w) 26 _) 27 _) 28 _⟩
theorem fail_any (a : Nat) (x : Fx) (ff : Int) (w : World) (h : Bx w a x) :
   Calls Tryz.prog 66 #[.pointer (some ⟨a, 0, none⟩), .int .i64 ff] w fun r w' => r = .returned (.tuple #[]) ∧ Bo1 a (x.fin 7 0 ff) w w' := by
 have c6 : w.cell? ⟨a, 26, none⟩ = some (.int .i64 x.e) := h.at_ 26 (by omega)
 have c7 : w.cell? ⟨a, 27, none⟩ = some (.int .u64 x.v) := h.at_ 27 (by omega)
 have c8 : w.cell? ⟨a, 28, none⟩ = some (.int .i64 x.f) := h.at_ 28 (by omega)
 have f6 := h.fr 26
 have f7 := h.fr 27
 have f8 := h.fr 28
 have hlt := h.lt
 have hn := ((h.e 7).v 0).f ff
 replace h := Hz.mk h
 replace hn := Hz.mk hn
 go_enter Tryz.func66, Tryz.ntmps66
 go_wp2_with fail
 go_end0
 exact ⟨rfl, hn.out, kp_set1 (kp_set1 (kp_set1 (Kp.refl _ w) 26 _) 27 _) 28 _⟩
theorem told_any (b : Bool) (w : World) :
   Calls Tryz.prog 112 #[.bool b] w fun r w' => r = .returned (.int .u64 (if b then 1 else 0)) ∧ w' = w := by
 cases b
 · go_enter Tryz.func112, Tryz.ntmps112
   go_wp2_with fail
   go_ret
   exact ⟨rfl, rfl⟩
 · go_enter Tryz.func112, Tryz.ntmps112
   go_wp2_with fail
   go_ret
   exact ⟨rfl, rfl⟩
end Z
end Go.Proofs.YthfphgjjieddjaaGreat
