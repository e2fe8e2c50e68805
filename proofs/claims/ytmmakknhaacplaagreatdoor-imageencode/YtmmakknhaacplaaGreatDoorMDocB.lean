import Derived.Test.YtmmakknhaacplaaGreatDoorMLow
import Derived.Test.YtmmakknhaacplaaGreatDoorP09
import Derived.Deep.RegionHeld3
import Derived.BigFrame
/-
  Stage 4, image: the document's bytes: typed, capped.
-/
namespace Go.Proofs.YtmmakknhaacplaaGreatDoor
open Go.RowKit

theorem At.underB {w w1 : World} {B k : Nat} {cs : Array Value} (h : At w k cs) (hb : Below B w w1) (hk : k < B) : At w1 k cs :=
  ⟨Nat.lt_of_lt_of_le h.1 hb.size, fun i => by rw [World.cell?_of_block (a := ⟨k, i, none⟩) (hb.block k hk)]; exact h.2.1 i, fun i => by rw [World.frozen?_of_block (a := ⟨k, i, none⟩) (hb.block k hk)]; exact h.2.2 i⟩
theorem cat_of (a b : List UInt8) (n m k : Nat) (ha : (str a).size = n) (hb : (str b).size = m) (hk : n + m = k) : ∃ c, a ++ b = c ∧ str a ++ str b = str c ∧ (str c).size = k := by
  refine ⟨a ++ b, rfl, ?_, ?_⟩
  · apply ByteArray.ext
    simp [str]
  · rw [str_size] at *
    rw [List.length_append, ha, hb, hk]
set_option maxRecDepth 100000 in
set_option maxHeartbeats 8000000 in
theorem refTyped_any (t : PTyp) (w : World) (hr : t.Rng) :
    Calls Tryz.prog 23 #[.agg #[.bool t.cap, .int .u64 t.b, .int .u64 t.e, .int .u64 t.lo, .int .u64 t.hi, .int .u8 t.p, .int .i64 t.s]] w fun x w' => x = .returned (.string (str (typB t))) ∧ Below w.heap.size w w' := by
  cases hc : t.cap with
  | false =>
    have hb : typB t = [0] := by unfold typB; rw [hc]; rfl
    rw [hb]
    clear hr
    go_enter Tryz.func23, Tryz.ntmps23
    go_wp2_with fail
    go_ret
    exact ⟨rfl, ((Gr.refl w).alloc _).below⟩
  | true =>
    have hb : typB t = [1] ++ leB 8 t.b ++ leB 8 t.e ++ leB 8 t.lo ++ leB 8 t.hi ++ leB 1 (u64 t.p) ++ leB 1 (u64 t.s) := by
      have e8 : u64 t.p = t.p := by have := hr.2.2.2.2.1; unfold B8 at this; unfold u64; omega
      unfold typB
      rw [hc, e8]
      simp [putB]
      rfl
    have l1 := Hid.mk (fun W => low_any t.b 8 W hr.1 (by omega) (by omega))
    have l2 := Hid.mk (fun W => low_any t.e 8 W hr.2.1 (by omega) (by omega))
    have l3 := Hid.mk (fun W => low_any t.lo 8 W hr.2.2.1 (by omega) (by omega))
    have l4 := Hid.mk (fun W => low_any t.hi 8 W hr.2.2.2.1 (by omega) (by omega))
    have l5 := Hid.mk (fun W => small_any t.p 1 W (by omega) (by omega))
    have l6 := Hid.mk (fun W => small_any t.s 1 W (by omega) (by omega))
    have e9 : IntKind.i64.wrap t.p = t.p := by have := hr.2.2.2.2.1; unfold B8 at this; rw [IntKind.wrap_i64]; omega
    rw [hb]
    clear hb hr hc
    have s1 : (str (leB 8 t.b)).size = 8 := by rw [str_size, leB_length]
    have s2 : (str (leB 8 t.e)).size = 8 := by rw [str_size, leB_length]
    have s3 : (str (leB 8 t.lo)).size = 8 := by rw [str_size, leB_length]
    have s4 : (str (leB 8 t.hi)).size = 8 := by rw [str_size, leB_length]
    have s5 : (str (leB 1 (u64 t.p))).size = 1 := by rw [str_size, leB_length]
    have s6 : (str (leB 1 (u64 t.s))).size = 1 := by rw [str_size, leB_length]
    generalize leB 8 t.b = b1 at *
    generalize leB 8 t.e = b2 at *
    generalize leB 8 t.lo = b3 at *
    generalize leB 8 t.hi = b4 at *
    generalize leB 1 (u64 t.p) = b5 at *
    generalize leB 1 (u64 t.s) = b6 at *
    obtain ⟨c1, g1, a1, z1⟩ := cat_of [1] b1 1 8 9 rfl s1 rfl
    rw [g1]
    obtain ⟨c2, g2, a2, z2⟩ := cat_of c1 b2 9 8 17 z1 s2 rfl
    rw [g2]
    obtain ⟨c3, g3, a3, z3⟩ := cat_of c2 b3 17 8 25 z2 s3 rfl
    rw [g3]
    obtain ⟨c4, g4, a4, z4⟩ := cat_of c3 b4 25 8 33 z3 s4 rfl
    rw [g4]
    obtain ⟨c5, g5, a5, z5⟩ := cat_of c4 b5 33 1 34 z4 s5 rfl
    rw [g5]
    obtain ⟨c6, g6, a6, z6⟩ := cat_of c5 b6 34 1 35 z5 s6 rfl
    rw [g6]
    have a0 : ({ data := #[1] } : ByteArray) ++ str b1 = str c1 := a1
    clear g1 g2 g3 g4 g5 g6 a1
    go_enter Tryz.func23, Tryz.ntmps23
    go_upto_region 1 with fail
    refine wp_world (fun W => At W w.heap.size #[.bool true, .int .u64 t.b, .int .u64 t.e, .int .u64 t.lo, .int .u64 t.hi, .int .u8 t.p, .int .i64 t.s] ∧ Gr w W) ⟨At.new w _ _, (Gr.refl w).alloc _⟩ ?_
    rintro wr ⟨BM, G0⟩
    have c0 : wr.cell? ⟨w.heap.size, 0, none⟩ = some (.bool true) := BM.2.1 0
    have hsz := Hid.mk G0.below.size
    have hlt := Hid.mk BM.1
    have KS : Hid (∀ W, Below wr.heap.size wr W → W.cell? ⟨w.heap.size, 0, none⟩ = some (.bool true) ∧ W.cell? ⟨w.heap.size, 1, none⟩ = some (.int .u64 t.b) ∧ W.cell? ⟨w.heap.size, 2, none⟩ = some (.int .u64 t.e) ∧ W.cell? ⟨w.heap.size, 3, none⟩ = some (.int .u64 t.lo) ∧ W.cell? ⟨w.heap.size, 4, none⟩ = some (.int .u64 t.hi) ∧ W.cell? ⟨w.heap.size, 5, none⟩ = some (.int .u8 t.p) ∧ W.cell? ⟨w.heap.size, 6, none⟩ = some (.int .i64 t.s)) := Hid.mk (fun W q => by
      have A := At.underB BM q BM.1
      exact ⟨A.2.1 0, A.2.1 1, A.2.1 2, A.2.1 3, A.2.1 4, A.2.1 5, A.2.1 6⟩)
    replace G0 := Hid.mk G0
    clear BM
    go_upto_region 3 with fail
    clear c0
    have d1 : Below wr.heap.size wr wr.drew := ((Gr.refl _).drew).below
    refine wp_region_held_drew (S := (fun W => W.cell? ⟨w.heap.size, 0, none⟩ = some (.bool true) ∧ W.cell? ⟨w.heap.size, 1, none⟩ = some (.int .u64 t.b) ∧ W.cell? ⟨w.heap.size, 2, none⟩ = some (.int .u64 t.e) ∧ W.cell? ⟨w.heap.size, 3, none⟩ = some (.int .u64 t.lo) ∧ W.cell? ⟨w.heap.size, 4, none⟩ = some (.int .u64 t.hi) ∧ W.cell? ⟨w.heap.size, 5, none⟩ = some (.int .u8 t.p) ∧ W.cell? ⟨w.heap.size, 6, none⟩ = some (.int .i64 t.s))) (by kernel_rfl) (KS.out _ d1) (fun hHeld => ?_)
    refine wpAnyH_take (i := 0) (oi := { dst := some 6, op := Op.fieldAddr 66 (Operand.tmp 1) 1, type := 0, pos := "bytes.go:27", after := #[], guard := none }) (v := ?_) rfl (by kernel_rfl) (by kernel_rfl) (by kernel_rfl) (fun _ _ _ h => h) (Or.inl ⟨by rfl, ?_⟩) (by assumption) ?_
    rotate_left
    · intro w hSw; (try dsimp only at hSw); go_simp; first | done | with_reducible rfl
    try simp only [Act.put, List.setIfInBounds_toArray, List.set_cons_zero, List.set_cons_succ]
    refine wpAnyH_take (i := 1) (oi := { dst := some 7, op := Op.load 38 (Operand.tmp 6), type := 38, pos := "bytes.go:27", after := #[{ on := 0, ground := Ground.data }], guard := none }) (v := ?_) rfl (by kernel_rfl) (by kernel_rfl) (by kernel_rfl) (fun _ _ _ h => h) (Or.inl ⟨by rfl, ?_⟩) (by assumption) ?_
    rotate_left
    · intro w hSw; (try dsimp only at hSw); go_simp; first | done | with_reducible rfl
    try simp only [Act.put, List.setIfInBounds_toArray, List.set_cons_zero, List.set_cons_succ]
    refine wpAnyH_take (i := 4) (oi := { dst := some 10, op := Op.fieldAddr 66 (Operand.tmp 1) 2, type := 0, pos := "bytes.go:27", after := #[], guard := none }) (v := ?_) rfl (by kernel_rfl) (by kernel_rfl) (by kernel_rfl) (fun _ _ _ h => h) (Or.inl ⟨by rfl, ?_⟩) (by assumption) ?_
    rotate_left
    · intro w hSw; (try dsimp only at hSw); go_simp; first | done | with_reducible rfl
    try simp only [Act.put, List.setIfInBounds_toArray, List.set_cons_zero, List.set_cons_succ]
    refine wpAnyH_take (i := 5) (oi := { dst := some 11, op := Op.load 38 (Operand.tmp 10), type := 38, pos := "bytes.go:27", after := #[{ on := 4, ground := Ground.data }], guard := none }) (v := ?_) rfl (by kernel_rfl) (by kernel_rfl) (by kernel_rfl) (fun _ _ _ h => h) (Or.inl ⟨by rfl, ?_⟩) (by assumption) ?_
    rotate_left
    · intro w hSw; (try dsimp only at hSw); go_simp; first | done | with_reducible rfl
    try simp only [Act.put, List.setIfInBounds_toArray, List.set_cons_zero, List.set_cons_succ]
    refine wpAnyH_take (i := 8) (oi := { dst := some 14, op := Op.fieldAddr 66 (Operand.tmp 1) 3, type := 0, pos := "bytes.go:27", after := #[], guard := none }) (v := ?_) rfl (by kernel_rfl) (by kernel_rfl) (by kernel_rfl) (fun _ _ _ h => h) (Or.inl ⟨by rfl, ?_⟩) (by assumption) ?_
    rotate_left
    · intro w hSw; (try dsimp only at hSw); go_simp; first | done | with_reducible rfl
    try simp only [Act.put, List.setIfInBounds_toArray, List.set_cons_zero, List.set_cons_succ]
    refine wpAnyH_take (i := 9) (oi := { dst := some 15, op := Op.load 38 (Operand.tmp 14), type := 38, pos := "bytes.go:27", after := #[{ on := 8, ground := Ground.data }], guard := none }) (v := ?_) rfl (by kernel_rfl) (by kernel_rfl) (by kernel_rfl) (fun _ _ _ h => h) (Or.inl ⟨by rfl, ?_⟩) (by assumption) ?_
    rotate_left
    · intro w hSw; (try dsimp only at hSw); go_simp; first | done | with_reducible rfl
    try simp only [Act.put, List.setIfInBounds_toArray, List.set_cons_zero, List.set_cons_succ]
    refine wpAnyH_take (i := 12) (oi := { dst := some 18, op := Op.fieldAddr 66 (Operand.tmp 1) 4, type := 0, pos := "bytes.go:27", after := #[], guard := none }) (v := ?_) rfl (by kernel_rfl) (by kernel_rfl) (by kernel_rfl) (fun _ _ _ h => h) (Or.inl ⟨by rfl, ?_⟩) (by assumption) ?_
    rotate_left
    · intro w hSw; (try dsimp only at hSw); go_simp; first | done | with_reducible rfl
    try simp only [Act.put, List.setIfInBounds_toArray, List.set_cons_zero, List.set_cons_succ]
    refine wpAnyH_take (i := 13) (oi := { dst := some 19, op := Op.load 38 (Operand.tmp 18), type := 38, pos := "bytes.go:27", after := #[{ on := 12, ground := Ground.data }], guard := none }) (v := ?_) rfl (by kernel_rfl) (by kernel_rfl) (by kernel_rfl) (fun _ _ _ h => h) (Or.inl ⟨by rfl, ?_⟩) (by assumption) ?_
    rotate_left
    · intro w hSw; (try dsimp only at hSw); go_simp; first | done | with_reducible rfl
    try simp only [Act.put, List.setIfInBounds_toArray, List.set_cons_zero, List.set_cons_succ]
    refine wpAnyH_take (i := 16) (oi := { dst := some 22, op := Op.fieldAddr 66 (Operand.tmp 1) 5, type := 0, pos := "bytes.go:27", after := #[], guard := none }) (v := ?_) rfl (by kernel_rfl) (by kernel_rfl) (by kernel_rfl) (fun _ _ _ h => h) (Or.inl ⟨by rfl, ?_⟩) (by assumption) ?_
    rotate_left
    · intro w hSw; (try dsimp only at hSw); go_simp; first | done | with_reducible rfl
    try simp only [Act.put, List.setIfInBounds_toArray, List.set_cons_zero, List.set_cons_succ]
    refine wpAnyH_take (i := 17) (oi := { dst := some 23, op := Op.load 39 (Operand.tmp 22), type := 39, pos := "bytes.go:27", after := #[{ on := 16, ground := Ground.data }], guard := none }) (v := ?_) rfl (by kernel_rfl) (by kernel_rfl) (by kernel_rfl) (fun _ _ _ h => h) (Or.inl ⟨by rfl, ?_⟩) (by assumption) ?_
    rotate_left
    · intro w hSw; (try dsimp only at hSw); go_simp; first | done | with_reducible rfl
    try simp only [Act.put, List.setIfInBounds_toArray, List.set_cons_zero, List.set_cons_succ]
    refine wpAnyH_take (i := 18) (oi := { dst := some 24, op := Op.convert 39 3 (Operand.tmp 23), type := 3, pos := "bytes.go:27", after := #[{ on := 17, ground := Ground.data }], guard := none }) (v := ?_) rfl (by kernel_rfl) (by kernel_rfl) (by kernel_rfl) (fun _ _ _ h => h) (Or.inl ⟨by rfl, ?_⟩) (by assumption) ?_
    rotate_left
    · intro w hSw; (try dsimp only at hSw); go_simp; first | done | with_reducible rfl
    try simp only [Act.put, List.setIfInBounds_toArray, List.set_cons_zero, List.set_cons_succ]
    refine wpAnyH_take (i := 21) (oi := { dst := some 27, op := Op.fieldAddr 66 (Operand.tmp 1) 6, type := 0, pos := "bytes.go:27", after := #[], guard := none }) (v := ?_) rfl (by kernel_rfl) (by kernel_rfl) (by kernel_rfl) (fun _ _ _ h => h) (Or.inl ⟨by rfl, ?_⟩) (by assumption) ?_
    rotate_left
    · intro w hSw; (try dsimp only at hSw); go_simp; first | done | with_reducible rfl
    try simp only [Act.put, List.setIfInBounds_toArray, List.set_cons_zero, List.set_cons_succ]
    refine wpAnyH_take (i := 22) (oi := { dst := some 28, op := Op.load 3 (Operand.tmp 27), type := 3, pos := "bytes.go:27", after := #[{ on := 21, ground := Ground.data }], guard := none }) (v := ?_) rfl (by kernel_rfl) (by kernel_rfl) (by kernel_rfl) (fun _ _ _ h => h) (Or.inl ⟨by rfl, ?_⟩) (by assumption) ?_
    rotate_left
    · intro w hSw; (try dsimp only at hSw); go_simp; first | done | with_reducible rfl
    try simp only [Act.put, List.setIfInBounds_toArray, List.set_cons_zero, List.set_cons_succ]
    refine wpAnyH_ready (rs := [2]) (by kernel_rfl) (by simp) ?_
    refine AllReadyH.cons (o := { dst := some 8, op := Op.call { callee := Callee.value (Operand.func 22), args := #[Operand.tmp 7, Operand.const (Value.int IntKind.i64 8)], argTypes := #[38, 3] }, type := 9, pos := "bytes.go:27", after := #[{ on := 1, ground := Ground.data }], guard := none }) rfl (fun K hK => ?_) AllReadyH.nil
    go_simp
    go_wp2_with (go_at_call 22; refine (l1.out _).mono ?_; rintro x wq ⟨rfl, q9⟩; replace d1 := Below.trans d1 (q9.mono d1.size); clear q9)
    refine hK.out _ _ (KS.out _ d1) (fun hHeld => ?_)
    clear hK K
    try simp only [Act.put, List.setIfInBounds_toArray, List.set_cons_zero, List.set_cons_succ]
    refine wpAnyH_take (i := 3) (oi := { dst := some 9, op := Op.binOp BinOp.add 9 (Operand.const (Value.string { data := #[1] })) (Operand.tmp 8) 9, type := 9, pos := "bytes.go:27", after := #[{ on := 2, ground := Ground.data }], guard := none }) (v := ?_) rfl (by kernel_rfl) (by kernel_rfl) (by kernel_rfl) (fun _ _ _ h => h) (Or.inl ⟨by rfl, ?_⟩) (by assumption) ?_
    rotate_left
    · intro w hSw; (try dsimp only at hSw); go_simp; first | done | with_reducible rfl
    try simp only [Act.put, List.setIfInBounds_toArray, List.set_cons_zero, List.set_cons_succ]
    refine wpAnyH_ready (rs := [6]) (by kernel_rfl) (by simp) ?_
    refine AllReadyH.cons (o := { dst := some 12, op := Op.call { callee := Callee.value (Operand.func 22), args := #[Operand.tmp 11, Operand.const (Value.int IntKind.i64 8)], argTypes := #[38, 3] }, type := 9, pos := "bytes.go:27", after := #[{ on := 5, ground := Ground.data }, { on := 2, ground := Ground.chain }], guard := none }) rfl (fun K hK => ?_) AllReadyH.nil
    go_simp
    go_wp2_with (go_at_call 22; refine (l2.out _).mono ?_; rintro x wq ⟨rfl, q9⟩; replace d1 := Below.trans d1 (q9.mono d1.size); clear q9)
    refine hK.out _ _ (KS.out _ d1) (fun hHeld => ?_)
    clear hK K
    try simp only [Act.put, List.setIfInBounds_toArray, List.set_cons_zero, List.set_cons_succ]
    refine wpAnyH_take (i := 7) (oi := { dst := some 13, op := Op.binOp BinOp.add 9 (Operand.tmp 9) (Operand.tmp 12) 9, type := 9, pos := "bytes.go:27", after := #[{ on := 3, ground := Ground.data }, { on := 6, ground := Ground.data }], guard := none }) (v := ?_) rfl (by kernel_rfl) (by kernel_rfl) (by kernel_rfl) (fun _ _ _ h => h) (Or.inl ⟨by rfl, ?_⟩) (by assumption) ?_
    rotate_left
    · intro w hSw; (try dsimp only at hSw); go_simp; first | done | with_reducible rfl
    try simp only [Act.put, List.setIfInBounds_toArray, List.set_cons_zero, List.set_cons_succ]
    refine wpAnyH_ready (rs := [10]) (by kernel_rfl) (by simp) ?_
    refine AllReadyH.cons (o := { dst := some 16, op := Op.call { callee := Callee.value (Operand.func 22), args := #[Operand.tmp 15, Operand.const (Value.int IntKind.i64 8)], argTypes := #[38, 3] }, type := 9, pos := "bytes.go:27", after := #[{ on := 9, ground := Ground.data }, { on := 6, ground := Ground.chain }], guard := none }) rfl (fun K hK => ?_) AllReadyH.nil
    go_simp
    go_wp2_with (go_at_call 22; refine (l3.out _).mono ?_; rintro x wq ⟨rfl, q9⟩; replace d1 := Below.trans d1 (q9.mono d1.size); clear q9)
    refine hK.out _ _ (KS.out _ d1) (fun hHeld => ?_)
    clear hK K
    try simp only [Act.put, List.setIfInBounds_toArray, List.set_cons_zero, List.set_cons_succ]
    refine wpAnyH_take (i := 11) (oi := { dst := some 17, op := Op.binOp BinOp.add 9 (Operand.tmp 13) (Operand.tmp 16) 9, type := 9, pos := "bytes.go:27", after := #[{ on := 7, ground := Ground.data }, { on := 10, ground := Ground.data }], guard := none }) (v := ?_) rfl (by kernel_rfl) (by kernel_rfl) (by kernel_rfl) (fun _ _ _ h => h) (Or.inl ⟨by rfl, ?_⟩) (by assumption) ?_
    rotate_left
    · intro w hSw; (try dsimp only at hSw); go_simp; first | done | with_reducible rfl
    try simp only [Act.put, List.setIfInBounds_toArray, List.set_cons_zero, List.set_cons_succ]
    refine wpAnyH_ready (rs := [14]) (by kernel_rfl) (by simp) ?_
    refine AllReadyH.cons (o := { dst := some 20, op := Op.call { callee := Callee.value (Operand.func 22), args := #[Operand.tmp 19, Operand.const (Value.int IntKind.i64 8)], argTypes := #[38, 3] }, type := 9, pos := "bytes.go:27", after := #[{ on := 13, ground := Ground.data }, { on := 10, ground := Ground.chain }], guard := none }) rfl (fun K hK => ?_) AllReadyH.nil
    go_simp
    go_wp2_with (go_at_call 22; refine (l4.out _).mono ?_; rintro x wq ⟨rfl, q9⟩; replace d1 := Below.trans d1 (q9.mono d1.size); clear q9)
    refine hK.out _ _ (KS.out _ d1) (fun hHeld => ?_)
    clear hK K
    try simp only [Act.put, List.setIfInBounds_toArray, List.set_cons_zero, List.set_cons_succ]
    refine wpAnyH_take (i := 15) (oi := { dst := some 21, op := Op.binOp BinOp.add 9 (Operand.tmp 17) (Operand.tmp 20) 9, type := 9, pos := "bytes.go:27", after := #[{ on := 11, ground := Ground.data }, { on := 14, ground := Ground.data }], guard := none }) (v := ?_) rfl (by kernel_rfl) (by kernel_rfl) (by kernel_rfl) (fun _ _ _ h => h) (Or.inl ⟨by rfl, ?_⟩) (by assumption) ?_
    rotate_left
    · intro w hSw; (try dsimp only at hSw); go_simp; first | done | with_reducible rfl
    try simp only [Act.put, List.setIfInBounds_toArray, List.set_cons_zero, List.set_cons_succ]
    refine wpAnyH_ready (rs := [19]) (by kernel_rfl) (by simp) ?_
    refine AllReadyH.cons (o := { dst := some 25, op := Op.call { callee := Callee.value (Operand.func 21), args := #[Operand.tmp 24, Operand.const (Value.int IntKind.i64 1)], argTypes := #[3, 3] }, type := 9, pos := "bytes.go:27", after := #[{ on := 18, ground := Ground.data }, { on := 14, ground := Ground.chain }], guard := none }) rfl (fun K hK => ?_) AllReadyH.nil
    go_simp
    go_wp2_with (go_at_call 21; refine (l5.out _).mono ?_; rintro x wq ⟨rfl, q9⟩; replace d1 := Below.trans d1 (q9.mono d1.size); clear q9)
    refine hK.out _ _ (KS.out _ d1) (fun hHeld => ?_)
    clear hK K
    try simp only [Act.put, List.setIfInBounds_toArray, List.set_cons_zero, List.set_cons_succ]
    refine wpAnyH_take (i := 20) (oi := { dst := some 26, op := Op.binOp BinOp.add 9 (Operand.tmp 21) (Operand.tmp 25) 9, type := 9, pos := "bytes.go:27", after := #[{ on := 15, ground := Ground.data }, { on := 19, ground := Ground.data }], guard := none }) (v := ?_) rfl (by kernel_rfl) (by kernel_rfl) (by kernel_rfl) (fun _ _ _ h => h) (Or.inl ⟨by rfl, ?_⟩) (by assumption) ?_
    rotate_left
    · intro w hSw; (try dsimp only at hSw); go_simp; first | done | with_reducible rfl
    try simp only [Act.put, List.setIfInBounds_toArray, List.set_cons_zero, List.set_cons_succ]
    refine wpAnyH_ready (rs := [23]) (by kernel_rfl) (by simp) ?_
    refine AllReadyH.cons (o := { dst := some 29, op := Op.call { callee := Callee.value (Operand.func 21), args := #[Operand.tmp 28, Operand.const (Value.int IntKind.i64 1)], argTypes := #[3, 3] }, type := 9, pos := "bytes.go:27", after := #[{ on := 22, ground := Ground.data }, { on := 19, ground := Ground.chain }], guard := none }) rfl (fun K hK => ?_) AllReadyH.nil
    go_simp
    go_wp2_with (go_at_call 21; refine (l6.out _).mono ?_; rintro x wq ⟨rfl, q9⟩; replace d1 := Below.trans d1 (q9.mono d1.size); clear q9)
    refine hK.out _ _ (KS.out _ d1) (fun hHeld => ?_)
    clear hK K
    try simp only [Act.put, List.setIfInBounds_toArray, List.set_cons_zero, List.set_cons_succ]
    refine wpAnyH_take (i := 24) (oi := { dst := some 30, op := Op.binOp BinOp.add 9 (Operand.tmp 26) (Operand.tmp 29) 9, type := 9, pos := "bytes.go:27", after := #[{ on := 20, ground := Ground.data }, { on := 23, ground := Ground.data }], guard := none }) (v := ?_) rfl (by kernel_rfl) (by kernel_rfl) (by kernel_rfl) (fun _ _ _ h => h) (Or.inl ⟨by rfl, ?_⟩) (by assumption) ?_
    rotate_left
    · intro w hSw; (try dsimp only at hSw); go_simp; first | done | with_reducible rfl
    try simp only [Act.put, List.setIfInBounds_toArray, List.set_cons_zero, List.set_cons_succ]
    refine wpAnyH_take (i := 25) (oi := { dst := some 2, op := Op.assign (Operand.tmp 30), type := 9, pos := "bytes.go:27", after := #[{ on := 24, ground := Ground.data }, { on := 23, ground := Ground.chain }, { on := 0, ground := Ground.phase }, { on := 1, ground := Ground.phase }, { on := 2, ground := Ground.phase }, { on := 3, ground := Ground.phase }, { on := 4, ground := Ground.phase }, { on := 5, ground := Ground.phase }, { on := 6, ground := Ground.phase }, { on := 7, ground := Ground.phase }, { on := 8, ground := Ground.phase }, { on := 9, ground := Ground.phase }, { on := 10, ground := Ground.phase }, { on := 11, ground := Ground.phase }, { on := 12, ground := Ground.phase }, { on := 13, ground := Ground.phase }, { on := 14, ground := Ground.phase }, { on := 15, ground := Ground.phase }, { on := 16, ground := Ground.phase }, { on := 17, ground := Ground.phase }, { on := 18, ground := Ground.phase }, { on := 19, ground := Ground.phase }, { on := 20, ground := Ground.phase }, { on := 21, ground := Ground.phase }, { on := 22, ground := Ground.phase }, { on := 23, ground := Ground.phase }, { on := 24, ground := Ground.phase }], guard := none }) (v := ?_) rfl (by kernel_rfl) (by kernel_rfl) (by kernel_rfl) (fun _ _ _ h => h) (Or.inl ⟨by rfl, ?_⟩) (by assumption) ?_
    rotate_left
    · intro w hSw; (try dsimp only at hSw); go_simp; first | done | with_reducible rfl
    try simp only [Act.put, List.setIfInBounds_toArray, List.set_cons_zero, List.set_cons_succ]
    refine wpAnyH_done (by kernel_rfl) ?_ _
    clear hHeld KS l1 l2 l3 l4 l5 l6
    have d2 := Hid.mk (G0.out.below.trans (d1.mono hsz.out))
    clear d1
    go_wp2_with fail
    go_ret
    exact ⟨rfl, d2.out⟩
set_option maxRecDepth 100000 in
set_option maxHeartbeats 8000000 in
theorem refCapped_any (b e c p s : Int) (w : World) (h1 : W64 b) (h2 : W64 e) (h3 : W64 c) (h4 : B8 p) :
    Calls Tryz.prog 24 #[.agg #[.int .u64 b, .int .u64 e, .int .u64 c, .int .u8 p, .int .i64 s]] w fun x w' => x = .returned (.string (str (putB 8 [b, e, c] ++ putB 1 [p, u64 s]))) ∧ Below w.heap.size w w' := by
  have hb : putB 8 [b, e, c] ++ putB 1 [p, u64 s] = leB 8 b ++ leB 8 e ++ leB 8 c ++ leB 1 (u64 p) ++ leB 1 (u64 s) := by
    have e8 : u64 p = p := by unfold B8 at h4; unfold u64; omega
    rw [e8]
    simp [putB]
  have l1 := Hid.mk (fun W => low_any b 8 W h1 (by omega) (by omega))
  have l2 := Hid.mk (fun W => low_any e 8 W h2 (by omega) (by omega))
  have l3 := Hid.mk (fun W => low_any c 8 W h3 (by omega) (by omega))
  have l5 := Hid.mk (fun W => small_any p 1 W (by omega) (by omega))
  have l6 := Hid.mk (fun W => small_any s 1 W (by omega) (by omega))
  have e9 : IntKind.i64.wrap p = p := by unfold B8 at h4; rw [IntKind.wrap_i64]; omega
  rw [hb]
  clear hb h1 h2 h3 h4
  have s1 : (str (leB 8 b)).size = 8 := by rw [str_size, leB_length]
  have s2 : (str (leB 8 e)).size = 8 := by rw [str_size, leB_length]
  have s3 : (str (leB 8 c)).size = 8 := by rw [str_size, leB_length]
  have s5 : (str (leB 1 (u64 p))).size = 1 := by rw [str_size, leB_length]
  have s6 : (str (leB 1 (u64 s))).size = 1 := by rw [str_size, leB_length]
  generalize leB 8 b = b1 at *
  generalize leB 8 e = b2 at *
  generalize leB 8 c = b3 at *
  generalize leB 1 (u64 p) = b5 at *
  generalize leB 1 (u64 s) = b6 at *
  obtain ⟨c2, g2, a2, z2⟩ := cat_of b1 b2 8 8 16 s1 s2 rfl
  rw [g2]
  obtain ⟨c3, g3, a3, z3⟩ := cat_of c2 b3 16 8 24 z2 s3 rfl
  rw [g3]
  obtain ⟨c5, g5, a5, z5⟩ := cat_of c3 b5 24 1 25 z3 s5 rfl
  rw [g5]
  obtain ⟨c6, g6, a6, z6⟩ := cat_of c5 b6 25 1 26 z5 s6 rfl
  rw [g6]
  clear g2 g3 g5 g6
  go_enter Tryz.func24, Tryz.ntmps24
  go_upto_region 1 with fail
  refine wp_world (fun W => At W w.heap.size #[.int .u64 b, .int .u64 e, .int .u64 c, .int .u8 p, .int .i64 s] ∧ Gr w W) ⟨At.new w _ _, (Gr.refl w).alloc _⟩ ?_
  rintro wr ⟨BM, G0⟩
  have hsz := Hid.mk G0.below.size
  have KS : Hid (∀ W, Below wr.heap.size wr W → W.cell? ⟨w.heap.size, 0, none⟩ = some (.int .u64 b) ∧ W.cell? ⟨w.heap.size, 1, none⟩ = some (.int .u64 e) ∧ W.cell? ⟨w.heap.size, 2, none⟩ = some (.int .u64 c) ∧ W.cell? ⟨w.heap.size, 3, none⟩ = some (.int .u8 p) ∧ W.cell? ⟨w.heap.size, 4, none⟩ = some (.int .i64 s)) := Hid.mk (fun W q => by
    have A := At.underB BM q BM.1
    exact ⟨A.2.1 0, A.2.1 1, A.2.1 2, A.2.1 3, A.2.1 4⟩)
  replace G0 := Hid.mk G0
  clear BM
  have d1 : Below wr.heap.size wr wr.drew := ((Gr.refl _).drew).below
  refine wp_region_held_drew (S := (fun W => W.cell? ⟨w.heap.size, 0, none⟩ = some (.int .u64 b) ∧ W.cell? ⟨w.heap.size, 1, none⟩ = some (.int .u64 e) ∧ W.cell? ⟨w.heap.size, 2, none⟩ = some (.int .u64 c) ∧ W.cell? ⟨w.heap.size, 3, none⟩ = some (.int .u8 p) ∧ W.cell? ⟨w.heap.size, 4, none⟩ = some (.int .i64 s))) (by kernel_rfl) (KS.out _ d1) (fun hHeld => ?_)
  refine wpAnyH_take (i := 0) (oi := { dst := some 3, op := Op.fieldAddr 41 (Operand.tmp 1) 0, type := 0, pos := "bytes.go:32", after := #[], guard := none }) (v := ?_) rfl (by kernel_rfl) (by kernel_rfl) (by kernel_rfl) (fun _ _ _ h => h) (Or.inl ⟨by rfl, ?_⟩) (by assumption) ?_
  rotate_left
  · intro w hSw; (try dsimp only at hSw); go_simp; first | done | with_reducible rfl
  try simp only [Act.put, List.setIfInBounds_toArray, List.set_cons_zero, List.set_cons_succ]
  refine wpAnyH_take (i := 1) (oi := { dst := some 4, op := Op.load 38 (Operand.tmp 3), type := 38, pos := "bytes.go:32", after := #[{ on := 0, ground := Ground.data }], guard := none }) (v := ?_) rfl (by kernel_rfl) (by kernel_rfl) (by kernel_rfl) (fun _ _ _ h => h) (Or.inl ⟨by rfl, ?_⟩) (by assumption) ?_
  rotate_left
  · intro w hSw; (try dsimp only at hSw); go_simp; first | done | with_reducible rfl
  try simp only [Act.put, List.setIfInBounds_toArray, List.set_cons_zero, List.set_cons_succ]
  refine wpAnyH_take (i := 3) (oi := { dst := some 6, op := Op.fieldAddr 41 (Operand.tmp 1) 1, type := 0, pos := "bytes.go:32", after := #[], guard := none }) (v := ?_) rfl (by kernel_rfl) (by kernel_rfl) (by kernel_rfl) (fun _ _ _ h => h) (Or.inl ⟨by rfl, ?_⟩) (by assumption) ?_
  rotate_left
  · intro w hSw; (try dsimp only at hSw); go_simp; first | done | with_reducible rfl
  try simp only [Act.put, List.setIfInBounds_toArray, List.set_cons_zero, List.set_cons_succ]
  refine wpAnyH_take (i := 4) (oi := { dst := some 7, op := Op.load 38 (Operand.tmp 6), type := 38, pos := "bytes.go:32", after := #[{ on := 3, ground := Ground.data }], guard := none }) (v := ?_) rfl (by kernel_rfl) (by kernel_rfl) (by kernel_rfl) (fun _ _ _ h => h) (Or.inl ⟨by rfl, ?_⟩) (by assumption) ?_
  rotate_left
  · intro w hSw; (try dsimp only at hSw); go_simp; first | done | with_reducible rfl
  try simp only [Act.put, List.setIfInBounds_toArray, List.set_cons_zero, List.set_cons_succ]
  refine wpAnyH_take (i := 7) (oi := { dst := some 10, op := Op.fieldAddr 41 (Operand.tmp 1) 2, type := 0, pos := "bytes.go:32", after := #[], guard := none }) (v := ?_) rfl (by kernel_rfl) (by kernel_rfl) (by kernel_rfl) (fun _ _ _ h => h) (Or.inl ⟨by rfl, ?_⟩) (by assumption) ?_
  rotate_left
  · intro w hSw; (try dsimp only at hSw); go_simp; first | done | with_reducible rfl
  try simp only [Act.put, List.setIfInBounds_toArray, List.set_cons_zero, List.set_cons_succ]
  refine wpAnyH_take (i := 8) (oi := { dst := some 11, op := Op.load 38 (Operand.tmp 10), type := 38, pos := "bytes.go:32", after := #[{ on := 7, ground := Ground.data }], guard := none }) (v := ?_) rfl (by kernel_rfl) (by kernel_rfl) (by kernel_rfl) (fun _ _ _ h => h) (Or.inl ⟨by rfl, ?_⟩) (by assumption) ?_
  rotate_left
  · intro w hSw; (try dsimp only at hSw); go_simp; first | done | with_reducible rfl
  try simp only [Act.put, List.setIfInBounds_toArray, List.set_cons_zero, List.set_cons_succ]
  refine wpAnyH_take (i := 11) (oi := { dst := some 14, op := Op.fieldAddr 41 (Operand.tmp 1) 3, type := 0, pos := "bytes.go:32", after := #[], guard := none }) (v := ?_) rfl (by kernel_rfl) (by kernel_rfl) (by kernel_rfl) (fun _ _ _ h => h) (Or.inl ⟨by rfl, ?_⟩) (by assumption) ?_
  rotate_left
  · intro w hSw; (try dsimp only at hSw); go_simp; first | done | with_reducible rfl
  try simp only [Act.put, List.setIfInBounds_toArray, List.set_cons_zero, List.set_cons_succ]
  refine wpAnyH_take (i := 12) (oi := { dst := some 15, op := Op.load 39 (Operand.tmp 14), type := 39, pos := "bytes.go:32", after := #[{ on := 11, ground := Ground.data }], guard := none }) (v := ?_) rfl (by kernel_rfl) (by kernel_rfl) (by kernel_rfl) (fun _ _ _ h => h) (Or.inl ⟨by rfl, ?_⟩) (by assumption) ?_
  rotate_left
  · intro w hSw; (try dsimp only at hSw); go_simp; first | done | with_reducible rfl
  try simp only [Act.put, List.setIfInBounds_toArray, List.set_cons_zero, List.set_cons_succ]
  refine wpAnyH_take (i := 13) (oi := { dst := some 16, op := Op.convert 39 3 (Operand.tmp 15), type := 3, pos := "bytes.go:32", after := #[{ on := 12, ground := Ground.data }], guard := none }) (v := ?_) rfl (by kernel_rfl) (by kernel_rfl) (by kernel_rfl) (fun _ _ _ h => h) (Or.inl ⟨by rfl, ?_⟩) (by assumption) ?_
  rotate_left
  · intro w hSw; (try dsimp only at hSw); go_simp; first | done | with_reducible rfl
  try simp only [Act.put, List.setIfInBounds_toArray, List.set_cons_zero, List.set_cons_succ]
  refine wpAnyH_take (i := 16) (oi := { dst := some 19, op := Op.fieldAddr 41 (Operand.tmp 1) 4, type := 0, pos := "bytes.go:32", after := #[], guard := none }) (v := ?_) rfl (by kernel_rfl) (by kernel_rfl) (by kernel_rfl) (fun _ _ _ h => h) (Or.inl ⟨by rfl, ?_⟩) (by assumption) ?_
  rotate_left
  · intro w hSw; (try dsimp only at hSw); go_simp; first | done | with_reducible rfl
  try simp only [Act.put, List.setIfInBounds_toArray, List.set_cons_zero, List.set_cons_succ]
  refine wpAnyH_take (i := 17) (oi := { dst := some 20, op := Op.load 3 (Operand.tmp 19), type := 3, pos := "bytes.go:32", after := #[{ on := 16, ground := Ground.data }], guard := none }) (v := ?_) rfl (by kernel_rfl) (by kernel_rfl) (by kernel_rfl) (fun _ _ _ h => h) (Or.inl ⟨by rfl, ?_⟩) (by assumption) ?_
  rotate_left
  · intro w hSw; (try dsimp only at hSw); go_simp; first | done | with_reducible rfl
  try simp only [Act.put, List.setIfInBounds_toArray, List.set_cons_zero, List.set_cons_succ]
  refine wpAnyH_ready (rs := [2]) (by kernel_rfl) (by simp) ?_
  refine AllReadyH.cons (o := { dst := some 5, op := Op.call { callee := Callee.value (Operand.func 22), args := #[Operand.tmp 4, Operand.const (Value.int IntKind.i64 8)], argTypes := #[38, 3] }, type := 9, pos := "bytes.go:32", after := #[{ on := 1, ground := Ground.data }], guard := none }) rfl (fun K hK => ?_) AllReadyH.nil
  go_simp
  go_wp2_with (go_at_call 22; refine (l1.out _).mono ?_; rintro x wq ⟨rfl, q9⟩; replace d1 := Below.trans d1 (q9.mono d1.size); clear q9)
  refine hK.out _ _ (KS.out _ d1) (fun hHeld => ?_)
  clear hK K
  try simp only [Act.put, List.setIfInBounds_toArray, List.set_cons_zero, List.set_cons_succ]
  refine wpAnyH_ready (rs := [5]) (by kernel_rfl) (by simp) ?_
  refine AllReadyH.cons (o := { dst := some 8, op := Op.call { callee := Callee.value (Operand.func 22), args := #[Operand.tmp 7, Operand.const (Value.int IntKind.i64 8)], argTypes := #[38, 3] }, type := 9, pos := "bytes.go:32", after := #[{ on := 4, ground := Ground.data }, { on := 2, ground := Ground.chain }], guard := none }) rfl (fun K hK => ?_) AllReadyH.nil
  go_simp
  go_wp2_with (go_at_call 22; refine (l2.out _).mono ?_; rintro x wq ⟨rfl, q9⟩; replace d1 := Below.trans d1 (q9.mono d1.size); clear q9)
  refine hK.out _ _ (KS.out _ d1) (fun hHeld => ?_)
  clear hK K
  try simp only [Act.put, List.setIfInBounds_toArray, List.set_cons_zero, List.set_cons_succ]
  refine wpAnyH_take (i := 6) (oi := { dst := some 9, op := Op.binOp BinOp.add 9 (Operand.tmp 5) (Operand.tmp 8) 9, type := 9, pos := "bytes.go:32", after := #[{ on := 2, ground := Ground.data }, { on := 5, ground := Ground.data }], guard := none }) (v := ?_) rfl (by kernel_rfl) (by kernel_rfl) (by kernel_rfl) (fun _ _ _ h => h) (Or.inl ⟨by rfl, ?_⟩) (by assumption) ?_
  rotate_left
  · intro w hSw; (try dsimp only at hSw); go_simp; first | done | with_reducible rfl
  try simp only [Act.put, List.setIfInBounds_toArray, List.set_cons_zero, List.set_cons_succ]
  refine wpAnyH_ready (rs := [9]) (by kernel_rfl) (by simp) ?_
  refine AllReadyH.cons (o := { dst := some 12, op := Op.call { callee := Callee.value (Operand.func 22), args := #[Operand.tmp 11, Operand.const (Value.int IntKind.i64 8)], argTypes := #[38, 3] }, type := 9, pos := "bytes.go:32", after := #[{ on := 8, ground := Ground.data }, { on := 5, ground := Ground.chain }], guard := none }) rfl (fun K hK => ?_) AllReadyH.nil
  go_simp
  go_wp2_with (go_at_call 22; refine (l3.out _).mono ?_; rintro x wq ⟨rfl, q9⟩; replace d1 := Below.trans d1 (q9.mono d1.size); clear q9)
  refine hK.out _ _ (KS.out _ d1) (fun hHeld => ?_)
  clear hK K
  try simp only [Act.put, List.setIfInBounds_toArray, List.set_cons_zero, List.set_cons_succ]
  refine wpAnyH_take (i := 10) (oi := { dst := some 13, op := Op.binOp BinOp.add 9 (Operand.tmp 9) (Operand.tmp 12) 9, type := 9, pos := "bytes.go:32", after := #[{ on := 6, ground := Ground.data }, { on := 9, ground := Ground.data }], guard := none }) (v := ?_) rfl (by kernel_rfl) (by kernel_rfl) (by kernel_rfl) (fun _ _ _ h => h) (Or.inl ⟨by rfl, ?_⟩) (by assumption) ?_
  rotate_left
  · intro w hSw; (try dsimp only at hSw); go_simp; first | done | with_reducible rfl
  try simp only [Act.put, List.setIfInBounds_toArray, List.set_cons_zero, List.set_cons_succ]
  refine wpAnyH_ready (rs := [14]) (by kernel_rfl) (by simp) ?_
  refine AllReadyH.cons (o := { dst := some 17, op := Op.call { callee := Callee.value (Operand.func 21), args := #[Operand.tmp 16, Operand.const (Value.int IntKind.i64 1)], argTypes := #[3, 3] }, type := 9, pos := "bytes.go:32", after := #[{ on := 13, ground := Ground.data }, { on := 9, ground := Ground.chain }], guard := none }) rfl (fun K hK => ?_) AllReadyH.nil
  go_simp
  go_wp2_with (go_at_call 21; refine (l5.out _).mono ?_; rintro x wq ⟨rfl, q9⟩; replace d1 := Below.trans d1 (q9.mono d1.size); clear q9)
  refine hK.out _ _ (KS.out _ d1) (fun hHeld => ?_)
  clear hK K
  try simp only [Act.put, List.setIfInBounds_toArray, List.set_cons_zero, List.set_cons_succ]
  refine wpAnyH_take (i := 15) (oi := { dst := some 18, op := Op.binOp BinOp.add 9 (Operand.tmp 13) (Operand.tmp 17) 9, type := 9, pos := "bytes.go:32", after := #[{ on := 10, ground := Ground.data }, { on := 14, ground := Ground.data }], guard := none }) (v := ?_) rfl (by kernel_rfl) (by kernel_rfl) (by kernel_rfl) (fun _ _ _ h => h) (Or.inl ⟨by rfl, ?_⟩) (by assumption) ?_
  rotate_left
  · intro w hSw; (try dsimp only at hSw); go_simp; first | done | with_reducible rfl
  try simp only [Act.put, List.setIfInBounds_toArray, List.set_cons_zero, List.set_cons_succ]
  refine wpAnyH_ready (rs := [18]) (by kernel_rfl) (by simp) ?_
  refine AllReadyH.cons (o := { dst := some 21, op := Op.call { callee := Callee.value (Operand.func 21), args := #[Operand.tmp 20, Operand.const (Value.int IntKind.i64 1)], argTypes := #[3, 3] }, type := 9, pos := "bytes.go:32", after := #[{ on := 17, ground := Ground.data }, { on := 14, ground := Ground.chain }], guard := none }) rfl (fun K hK => ?_) AllReadyH.nil
  go_simp
  go_wp2_with (go_at_call 21; refine (l6.out _).mono ?_; rintro x wq ⟨rfl, q9⟩; replace d1 := Below.trans d1 (q9.mono d1.size); clear q9)
  refine hK.out _ _ (KS.out _ d1) (fun hHeld => ?_)
  clear hK K
  try simp only [Act.put, List.setIfInBounds_toArray, List.set_cons_zero, List.set_cons_succ]
  refine wpAnyH_take (i := 19) (oi := { dst := some 22, op := Op.binOp BinOp.add 9 (Operand.tmp 18) (Operand.tmp 21) 9, type := 9, pos := "bytes.go:32", after := #[{ on := 15, ground := Ground.data }, { on := 18, ground := Ground.data }], guard := none }) (v := ?_) rfl (by kernel_rfl) (by kernel_rfl) (by kernel_rfl) (fun _ _ _ h => h) (Or.inl ⟨by rfl, ?_⟩) (by assumption) ?_
  rotate_left
  · intro w hSw; (try dsimp only at hSw); go_simp; first | done | with_reducible rfl
  try simp only [Act.put, List.setIfInBounds_toArray, List.set_cons_zero, List.set_cons_succ]
  refine wpAnyH_take (i := 20) (oi := { dst := some 2, op := Op.assign (Operand.tmp 22), type := 9, pos := "bytes.go:32", after := #[{ on := 19, ground := Ground.data }, { on := 18, ground := Ground.chain }, { on := 0, ground := Ground.phase }, { on := 1, ground := Ground.phase }, { on := 2, ground := Ground.phase }, { on := 3, ground := Ground.phase }, { on := 4, ground := Ground.phase }, { on := 5, ground := Ground.phase }, { on := 6, ground := Ground.phase }, { on := 7, ground := Ground.phase }, { on := 8, ground := Ground.phase }, { on := 9, ground := Ground.phase }, { on := 10, ground := Ground.phase }, { on := 11, ground := Ground.phase }, { on := 12, ground := Ground.phase }, { on := 13, ground := Ground.phase }, { on := 14, ground := Ground.phase }, { on := 15, ground := Ground.phase }, { on := 16, ground := Ground.phase }, { on := 17, ground := Ground.phase }, { on := 18, ground := Ground.phase }, { on := 19, ground := Ground.phase }], guard := none }) (v := ?_) rfl (by kernel_rfl) (by kernel_rfl) (by kernel_rfl) (fun _ _ _ h => h) (Or.inl ⟨by rfl, ?_⟩) (by assumption) ?_
  rotate_left
  · intro w hSw; (try dsimp only at hSw); go_simp; first | done | with_reducible rfl
  try simp only [Act.put, List.setIfInBounds_toArray, List.set_cons_zero, List.set_cons_succ]
  refine wpAnyH_done (by kernel_rfl) ?_ _
  clear hHeld KS l1 l2 l3 l5 l6
  have d2 := Hid.mk (G0.out.below.trans (d1.mono hsz.out))
  clear d1
  go_wp2_with fail
  go_ret
  exact ⟨rfl, d2.out⟩
end Go.Proofs.YtmmakknhaacplaaGreatDoor
