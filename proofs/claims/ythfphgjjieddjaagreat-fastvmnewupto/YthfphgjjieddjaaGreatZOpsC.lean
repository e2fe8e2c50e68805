import Derived.Test.YthfphgjjieddjaaGreatZLeaf
namespace Go.Proofs.YthfphgjjieddjaaGreat
set_option maxRecDepth 100000
set_option maxHeartbeats 40000000
namespace Z
open Go.RowKit
open T (Sep Ob Kp Mf FlIn)

theorem trap_op (a : Nat) (x : Fx) (i : Fi) (w : World) (h : Bx w a x)  :
   Calls Tryz.prog 93 #[.agg #[.int .u8 i.op, .int .i64 i.a, .int .i64 i.b, .int .i64 i.c, .int .u64 i.i], .pointer (some ⟨a, 0, none⟩)] w fun r w' => r = .returned (.tuple #[]) ∧ Bo1 a (x.fin 3 i.i 0) w w' := by
 have hne : ¬ w.heap.size = a := by have := h.lt; omega
 have hx := Hz.mk h
 clear h
 go_enter Tryz.func93, Tryz.ntmps93
 go_upto_region 1 with fail
 refine wp_world (fun W => At W w.heap.size #[.int .u8 i.op, .int .i64 i.a, .int .i64 i.b, .int .i64 i.c, .int .u64 i.i] ∧ Gr w W) ⟨At.new w _ _, (Gr.refl _).alloc _⟩ ?_
 rintro W ⟨hA, G⟩
 generalize w.heap.size = kb at *
 replace hA := Hz.mk hA
 have KS := xk1 i kb
 have q4 : W.cell? ⟨kb, 4, none⟩ = some (.int .u64 i.i) := hA.out.2.1 4
 go_wp2_with fail
 refine (finish_any a x 3 i.i _ (hx.out.gr G)).mono ?_
 rintro r V9 ⟨rfl, hB⟩
 replace hB := Hz.mk hB
 go_wp2_with fail
 first | go_end0 | ((try simp only [Exit.inBlock, Exit.then]); refine bodyPost_ret (results_none rfl _ _ _) rfl ?_)
 exact ⟨rfl, hB.out.after G⟩
theorem halt_op (a : Nat) (x : Fx) (i : Fi) (w : World) (h : Bx w a x) (ha : i.a < 16) :
   Calls Tryz.prog 92 #[.agg #[.int .u8 i.op, .int .i64 i.a, .int .i64 i.b, .int .i64 i.c, .int .u64 i.i], .pointer (some ⟨a, 0, none⟩)] w fun r w' => r = .returned (.tuple #[]) ∧ Bo1 a (x.fin 1 (x.r i.a) 0) w w' := by
 have hne : ¬ w.heap.size = a := by have := h.lt; omega
 have hx := Hz.mk h
 clear h
 go_enter Tryz.func92, Tryz.ntmps92
 go_upto_region 1 with fail
 refine wp_world (fun W => At W w.heap.size #[.int .u8 i.op, .int .i64 i.a, .int .i64 i.b, .int .i64 i.c, .int .u64 i.i] ∧ Gr w W) ⟨At.new w _ _, (Gr.refl _).alloc _⟩ ?_
 rintro W ⟨hA, G⟩
 generalize w.heap.size = kb at *
 replace hA := Hz.mk hA
 have KS := xk1 i kb
 have q0 : W.cell? ⟨kb, 0, none⟩ = some (.int .u8 i.op) := hA.out.2.1 0
 have q1 : W.cell? ⟨kb, 1, none⟩ = some (.int .i64 i.a) := hA.out.2.1 1
 have q2 : W.cell? ⟨kb, 2, none⟩ = some (.int .i64 i.b) := hA.out.2.1 2
 have q3 : W.cell? ⟨kb, 3, none⟩ = some (.int .i64 i.c) := hA.out.2.1 3
 have q4 : W.cell? ⟨kb, 4, none⟩ = some (.int .u64 i.i) := hA.out.2.1 4
 go_wp2_with fail
 refine (a_any a x i _ (hx.out.gr G) ha).mono ?_
 rintro r V1 ⟨rfl, g1⟩
 go_wp2_with fail
 refine (finish_any a x 1 _ _ ((hx.out.gr G).gr g1)).mono ?_
 rintro r V9 ⟨rfl, hB⟩
 replace hB := Hz.mk hB
 go_wp2_with fail
 first | go_end0 | ((try simp only [Exit.inBlock, Exit.then]); refine bodyPost_ret (results_none rfl _ _ _) rfl ?_)
 exact ⟨rfl, hB.out.after (G.trans g1)⟩
theorem demand_any (a : Nat) (x : Fx) (i : Fi) (w : World) (h : Bx w a x) (ok : Bool) (hp : x.p ≤ 1000000) :
   Calls Tryz.prog 120 #[.agg #[.int .u8 i.op, .int .i64 i.a, .int .i64 i.b, .int .i64 i.c, .int .u64 i.i], .pointer (some ⟨a, 0, none⟩), .bool ok] w fun r w' => r = .returned (.tuple #[]) ∧ Bo1 a (x.dm ok (IntKind.u64.wrap i.c)) w w' := by
 cases ok
 · have hne : ¬ w.heap.size = a := by have := h.lt; omega
   have hx := Hz.mk h
   clear h
   go_enter Tryz.func120, Tryz.ntmps120
   go_upto_region 1 with fail
   refine wp_world (fun W => At W w.heap.size #[.int .u8 i.op, .int .i64 i.a, .int .i64 i.b, .int .i64 i.c, .int .u64 i.i] ∧ Gr w W) ⟨At.new w _ _, (Gr.refl _).alloc _⟩ ?_
   rintro W ⟨hA, G⟩
   generalize w.heap.size = kb at *
   replace hA := Hz.mk hA
   have KS := xk1 i kb
   have q3 : W.cell? ⟨kb, 3, none⟩ = some (.int .i64 i.c) := hA.out.2.1 3
   go_wp2_with fail
   refine (finish_any a x 2 _ _ (hx.out.gr G)).mono ?_
   rintro r V9 ⟨rfl, hB⟩
   replace hB := Hz.mk hB
   go_wp2_with fail
   first | go_end0 | ((try simp only [Exit.inBlock, Exit.then]); refine bodyPost_ret (results_none rfl _ _ _) rfl ?_)
   exact ⟨rfl, hB.out.after G⟩
 · have hne : ¬ w.heap.size = a := by have := h.lt; omega
   have hx := Hz.mk h
   clear h
   go_enter Tryz.func120, Tryz.ntmps120
   go_upto_region 1 with fail
   refine wp_world (fun W => At W w.heap.size #[.int .u8 i.op, .int .i64 i.a, .int .i64 i.b, .int .i64 i.c, .int .u64 i.i] ∧ Gr w W) ⟨At.new w _ _, (Gr.refl _).alloc _⟩ ?_
   rintro W ⟨hA, G⟩
   generalize w.heap.size = kb at *
   replace hA := Hz.mk hA
   have KS := xk1 i kb
   go_wp2_with fail
   refine (next_any a x _ (hx.out.gr G) hp).mono ?_
   rintro r V9 ⟨rfl, hB⟩
   replace hB := Hz.mk hB
   go_wp2_with fail
   first | go_end0 | ((try simp only [Exit.inBlock, Exit.then]); refine bodyPost_ret (results_none rfl _ _ _) rfl ?_)
   exact ⟨rfl, hB.out.after G⟩
theorem jmp_op (a : Nat) (x : Fx) (i : Fi) (w : World) (h : Bx w a x) (hj : 0 ≤ i.i ∧ i.i < 1000) :
   Calls Tryz.prog 87 #[.agg #[.int .u8 i.op, .int .i64 i.a, .int .i64 i.b, .int .i64 i.c, .int .u64 i.i], .pointer (some ⟨a, 0, none⟩)] w fun r w' => r = .returned (.tuple #[]) ∧ Bo1 a { x with p := i.i.toNat } w w' := by
 have hne : ¬ w.heap.size = a := by have := h.lt; omega
 have hx := Hz.mk h
 clear h
 go_enter Tryz.func87, Tryz.ntmps87
 go_upto_region 1 with fail
 refine wp_world (fun W => At W w.heap.size #[.int .u8 i.op, .int .i64 i.a, .int .i64 i.b, .int .i64 i.c, .int .u64 i.i] ∧ Gr w W) ⟨At.new w _ _, (Gr.refl _).alloc _⟩ ?_
 rintro W ⟨hA, G⟩
 generalize w.heap.size = kb at *
 replace hA := Hz.mk hA
 have KS := xk1 i kb
 have q4 : W.cell? ⟨kb, 4, none⟩ = some (.int .u64 i.i) := hA.out.2.1 4
 have c5 : W.cell? ⟨a, 5, none⟩ = some (.int .i64 x.p) := (hx.out.gr G).at_ 5 (by omega)
 have f5 := (hx.out.gr G).fr 5
 have hlt := (hx.out.gr G).lt
 have e5 : wrap64 i.i = i.i := by unfold wrap64; omega
 have e6 : ((i.i.toNat : Nat) : Int) = i.i := by omega
 have hn := Hz.mk ((hx.out.gr G).pc i.i.toNat)
 rw [e6] at hn
 replace e6 := Hz.mk e6
 replace hj := Hz.mk hj
 go_wp2_with fail
 first | go_end0 | ((try simp only [Exit.inBlock, Exit.then]); refine bodyPost_ret (results_none rfl _ _ _) rfl ?_)
 exact ⟨rfl, hn.out, (kp_set1 (Kp.ofGr G) 5 _)⟩
end Z
end Go.Proofs.YthfphgjjieddjaaGreat
