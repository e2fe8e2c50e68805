import Derived.Test.YtmmakknhaacplaaGreatDoorMDocB
import Derived.Test.YtmmakknhaacplaaGreatDoorMRef5
import Derived.Test.YtmmakknhaacplaaGreatDoorIRefEnc
import Derived.Test.YtmmakknhaacplaaGreatDoorP19
import Derived.Deep.RegionHeld3
import Derived.BigFrame
/-
  Stage 4, image: the document's Encode.
-/
namespace Go.Proofs.YtmmakknhaacplaaGreatDoor
namespace Q
open Go.RowKit

theorem step_cat {B b r T : List UInt8} (h : B ++ (b ++ r) = T) (hT : T.length ≤ 40000) : ∃ c, c ++ r = T ∧ str B ++ str b = str c ∧ ¬ 9223372036854775807 < (str B).size + (str b).size := by
  refine ⟨B ++ b, by rw [List.append_assoc]; exact h, ?_, ?_⟩
  · apply ByteArray.ext
    simp [str]
  · rw [str_size, str_size]
    have := congrArg List.length h
    simp only [List.length_append] at this
    omega
theorem u64_len {n : Nat} (h : n ≤ maxG) : u64 (n : Int) = n := by unfold maxG at h; unfold u64; omega
theorem regB_cat (r : PReg) (R : List UInt8) : regB r ++ R = leB 4 r.b ++ (leB 4 r.n ++ (leB 2 (r.slots.length : Int) ++ (slotsB r.slots ++ (dataBy r ++ R)))) := by
  unfold regB
  simp [putB, List.append_assoc]
theorem slotB_cat (k : PSlot) (R : List UInt8) : slotB k ++ R = typB k.t ++ (leB 8 k.c ++ R) := by
  unfold slotB
  simp [putB, List.append_assoc]
theorem rootB_cat (k : PRoot) (R : List UInt8) : rootB k ++ R = leB 1 (u64 k.r) ++ ((putB 8 [k.b, k.e, k.c] ++ putB 1 [k.p, u64 k.s]) ++ R) := by
  unfold rootB
  simp [putB, List.append_assoc]
theorem compB_cat (c : PComp) (R : List UInt8) : compB c ++ R = leB 1 (c.roots.length : Int) ++ (rootsB c.roots ++ (leB 2 (c.code.length : Int) ++ ((encF c.code 0 []).1 ++ R))) := by
  unfold compB codeBy
  simp [putB, List.append_assoc]
theorem gateB_cat (g : PGate) (R : List UInt8) : gateB g ++ R = leB 1 (u64 g.c) ++ (leB 2 (u64 g.e) ++ (leB 1 (g.args.length : Int) ++ (typsB g.args ++ (leB 1 (g.res.length : Int) ++ (typsB g.res ++ R))))) := by
  unfold gateB kindsB
  simp [putB, List.append_assoc]
theorem imgB_cat (m : PImg) : imgB m = magicB ++ (leB 1 (u64 m.depth) ++ (leB 1 (m.regs.length : Int) ++ (leB 1 (m.comps.length : Int) ++ (leB 1 (m.gates.length : Int) ++ (regsB m.regs ++ (compsB m.comps ++ (gatesB m.gates ++ []))))))) := by
  unfold imgB
  simp [putB, List.append_assoc]
theorem dataB_none {r : PReg} (h : r.slots.length ≠ 0) (R : List UInt8) : dataBy r ++ R = R := by
  unfold dataBy
  rw [if_neg h]
  rfl
theorem dataB_some {r : PReg} (h : r.slots.length = 0) (R : List UInt8) : slotsB r.slots ++ (dataBy r ++ R) = leB 2 (r.data.length : Int) ++ (r.data ++ (slotsB r.slots ++ R)) := by
  have e : r.slots = [] := List.eq_nil_of_length_eq_zero h
  unfold dataBy
  rw [if_pos h, e]
  simp [putB, slotsB, List.append_assoc]
theorem slot_cells {W : World} {b o : Nat} {k : PSlot} (h : ∀ j, j < 8 → W.cell? ⟨b, o + j, none⟩ = (PSlot.vals k)[j]?) : W.rangeAt b o (PTyp.vals k.t) ∧ W.cell? ⟨b, o + 7, none⟩ = some (.int .u64 k.c) := by
  refine ⟨fun j v q => ?_, h 7 (by omega)⟩
  have hj : j < 7 := by
    have := (List.getElem?_eq_some_iff.1 q).1
    exact this
  rw [h j (by omega)]
  unfold PSlot.vals
  rw [List.getElem?_append_left (by exact hj)]
  exact q
theorem root_cells {W : World} {b o : Nat} {k : PRoot} (h : ∀ j, j < 6 → W.cell? ⟨b, o + j, none⟩ = (PRoot.vals k)[j]?) : W.cell? ⟨b, o, none⟩ = some (.int .i64 k.r) ∧ W.rangeAt b (o + 1) [Value.int .u64 k.b, .int .u64 k.e, .int .u64 k.c, .int .u8 k.p, .int .i64 k.s] := by
  refine ⟨h 0 (by omega), fun j v q => ?_⟩
  have hj : j < 5 := (List.getElem?_eq_some_iff.1 q).1
  rw [show o + 1 + j = o + (j + 1) by omega, h (j + 1) (by omega)]
  exact q
theorem next_w {k n : Nat} (h : k < n) (hn : n ≤ maxG) : wrap64 ((k : Int) + 1) = ((k + 1 : Nat) : Int) := by unfold maxG at hn; unfold wrap64; omega
theorem next_m {k n : Nat} (h : k < n) : n - (intOf (.int .i64 ((k + 1 : Nat) : Int))).toNat < n - (intOf (.int .i64 (k : Int))).toNat := by simp [intOf]; omega
theorem below_up {a b c : World} {k : Nat} (h : Below k a b) (hk : k ≤ a.heap.size) (q : Below b.heap.size b c) : Below k a c := h.trans (q.mono (Nat.le_trans hk h.size))
set_option maxRecDepth 100000 in
set_option maxHeartbeats 16000000 in
theorem refEnc_any (m : PImg) (ra ca ga : Option Addr) (rc cc gc : Nat) (w : World) (hm0 : ImgIn w.heap.size w ra ca ga m) (hr : m.Rng)
    (hS : m.right = 0 → ∀ W, ImgIn W.heap.size W ra ca ga m → Calls Tryz.prog 20 #[.agg #[.slice ra m.regs.length rc, .slice ca m.comps.length cc, .slice ga m.gates.length gc, .int .i64 m.depth]] W fun x w' => x = .returned (.int .i64 (imgB m).length) ∧ Below W.heap.size W w') :
    Calls Tryz.prog 7 #[.agg #[.slice ra m.regs.length rc, .slice ca m.comps.length cc, .slice ga m.gates.length gc, .int .i64 m.depth]] w fun x w' => x = .returned (.tuple #[.string (str (encI m).1), .int .i64 (encI m).2]) ∧ Below w.heap.size w w' := by
  have hR := Hid.mk (fun W h => refRight_any m ra ca ga rc cc gc W h hr)
  replace hm0 := Hid.mk hm0
  by_cases h0 : m.right = 0
  · replace hS := Hid.mk (hS h0)
    by_cases hlen : (imgB m).length ≤ 40000
    · have he : encI m = (imgB m, 0) := by unfold encI; rw [if_pos h0, if_pos hlen]
      rw [he]
      clear he
      have hT := Hid.mk hlen
      have hE0 := imgB_cat m
      have hl1 := Hid.mk hr.regs.1
      have hl2 := Hid.mk hr.comps.1
      have hl3 := Hid.mk hr.gates.1
      have l1 := hr.regs.1
      have l2 := hr.comps.1
      have l3 := hr.gates.1
      unfold maxG at l1 l2 l3
      have hr1 := Hid.mk hr.regs.2
      have hr2 := Hid.mk hr.comps.2
      have hr3 := Hid.mk hr.gates.2
      have v1 := u64_len hr.regs.1
      have v2 := u64_len hr.comps.1
      have v3 := u64_len hr.gates.1
      have k1 := Hid.mk (fun W => small_any m.depth 1 W (by decide) (by decide))
      have k2 := Hid.mk (fun W => small_any (m.regs.length : Int) 1 W (by decide) (by decide))
      have k3 := Hid.mk (fun W => small_any (m.comps.length : Int) 1 W (by decide) (by decide))
      have k4 := Hid.mk (fun W => small_any (m.gates.length : Int) 1 W (by decide) (by decide))
      rw [v1] at k2
      rw [v2] at k3
      rw [v3] at k4
      have hgt : ¬ (40000 : Int) < ((imgB m).length : Int) := by omega
      generalize hTT : imgB m = T at *
      clear hTT hlen v1 v2 v3 hr
      rw [h0] at hR
      clear h0
      replace hE0 := hE0.symm
      generalize leB 1 (u64 m.depth) = b1 at *
      generalize leB 1 (m.regs.length : Int) = b2 at *
      generalize leB 1 (m.comps.length : Int) = b3 at *
      generalize leB 1 (m.gates.length : Int) = b4 at *
      obtain ⟨c0, e0, a0, q0⟩ := step_cat hE0 hT.out
      obtain ⟨c1, e1, a1, q1⟩ := step_cat e0 hT.out
      obtain ⟨c2, e2, a2, q2⟩ := step_cat e1 hT.out
      obtain ⟨c3, e3, a3, q3⟩ := step_cat e2 hT.out
      have a0' : ({ data := #[80, 65, 68, 68, 75, 49] } : ByteArray) ++ str b1 = str c0 := a0
      have q0' : ¬ 9223372036854775807 < 6 + (str b1).size := q0
      replace e3 := Hid.mk e3
      clear e0 e1 e2 hE0 a0 q0
      go_enter Tryz.func7, Tryz.ntmps7
      go_upto_region 1 with fail
      refine wp_world (fun W => At W w.heap.size #[.slice ra m.regs.length rc, .slice ca m.comps.length cc, .slice ga m.gates.length gc, .int .i64 m.depth] ∧ Gr w W) ⟨At.new w _ _, (Gr.refl w).alloc _⟩ ?_
      rintro W0 ⟨BM, G0⟩
      replace BM := Hid.mk BM
      have hm : Hid (ImgIn w.heap.size W0 ra ca ga m) := Hid.mk (hm0.out.below (gr_belowR G0 (Nat.le_refl _)))
      have hB : Hid (w.heap.size < W0.heap.size) := Hid.mk BM.out.1
      replace G0 := Hid.mk G0.below
      clear hm0
      have m0 : W0.cell? ⟨w.heap.size, 0, none⟩ = some (.slice ra m.regs.length rc) := (At.underB BM.out (Below.refl _ _) hB.out).2.1 0
      have m1 : W0.cell? ⟨w.heap.size, 1, none⟩ = some (.slice ca m.comps.length cc) := (At.underB BM.out (Below.refl _ _) hB.out).2.1 1
      have m2 : W0.cell? ⟨w.heap.size, 2, none⟩ = some (.slice ga m.gates.length gc) := (At.underB BM.out (Below.refl _ _) hB.out).2.1 2
      have m3 : W0.cell? ⟨w.heap.size, 3, none⟩ = some (.int .i64 m.depth) := (At.underB BM.out (Below.refl _ _) hB.out).2.1 3
      go_wp2_with fail
      refine (hR.out W0 (hm.out.mono (Nat.le_of_lt hB.out))).mono ?_
      rintro x w1 ⟨rfl, q9⟩
      clear m0 m1 m2 m3
      have L := Hid.mk q9.below
      clear q9
      have m0 : w1.cell? ⟨w.heap.size, 0, none⟩ = some (.slice ra m.regs.length rc) := (At.underB BM.out L.out hB.out).2.1 0
      have m1 : w1.cell? ⟨w.heap.size, 1, none⟩ = some (.slice ca m.comps.length cc) := (At.underB BM.out L.out hB.out).2.1 1
      have m2 : w1.cell? ⟨w.heap.size, 2, none⟩ = some (.slice ga m.gates.length gc) := (At.underB BM.out L.out hB.out).2.1 2
      have m3 : w1.cell? ⟨w.heap.size, 3, none⟩ = some (.int .i64 m.depth) := (At.underB BM.out L.out hB.out).2.1 3
      go_wp2_with fail
      refine (hS.out w1 ((hm.out.below (L.out.mono (Nat.le_of_lt hB.out))).mono (Nat.le_trans (Nat.le_of_lt hB.out) L.out.size))).mono ?_
      rintro x w2 ⟨rfl, q9⟩
      clear m0 m1 m2 m3
      replace L := Hid.mk (below_up L.out (Nat.le_refl _) q9)
      clear q9
      clear hR hS
      have KS : Hid (∀ W, Below w2.heap.size w2 W → W.cell? ⟨w.heap.size, 0, none⟩ = some (.slice ra m.regs.length rc) ∧ W.cell? ⟨w.heap.size, 1, none⟩ = some (.slice ca m.comps.length cc) ∧ W.cell? ⟨w.heap.size, 2, none⟩ = some (.slice ga m.gates.length gc) ∧ W.cell? ⟨w.heap.size, 3, none⟩ = some (.int .i64 m.depth)) := Hid.mk (fun W q => by have A := At.underB BM.out (below_up L.out (Nat.le_refl _) q) hB.out; exact ⟨A.2.1 0, A.2.1 1, A.2.1 2, A.2.1 3⟩)
      go_upto_region 6 with fail
      have d1 : Below w2.heap.size w2 w2.drew := ((Gr.refl _).drew).below
      refine wp_region_held_drew (S := (fun W => W.cell? ⟨w.heap.size, 0, none⟩ = some (.slice ra m.regs.length rc) ∧ W.cell? ⟨w.heap.size, 1, none⟩ = some (.slice ca m.comps.length cc) ∧ W.cell? ⟨w.heap.size, 2, none⟩ = some (.slice ga m.gates.length gc) ∧ W.cell? ⟨w.heap.size, 3, none⟩ = some (.int .i64 m.depth))) (by kernel_rfl) (KS.out _ d1) (fun hHeld => ?_)
      refine wpAnyH_take (i := 0) (oi := { dst := some 27, op := Op.fieldAddr 26 (Operand.tmp 1) 3, type := 0, pos := "bytes.go:69", after := #[], guard := none }) (v := ?_) rfl (by kernel_rfl) (by kernel_rfl) (by kernel_rfl) (fun _ _ _ h => h) (Or.inl ⟨by rfl, ?_⟩) (by assumption) ?_
      rotate_left
      · intro w hSw; (try dsimp only at hSw); go_simp; first | done | with_reducible rfl
      try simp only [Act.put, List.setIfInBounds_toArray, List.set_cons_zero, List.set_cons_succ]
      refine wpAnyH_take (i := 1) (oi := { dst := some 28, op := Op.load 3 (Operand.tmp 27), type := 3, pos := "bytes.go:69", after := #[{ on := 0, ground := Ground.data }], guard := none }) (v := ?_) rfl (by kernel_rfl) (by kernel_rfl) (by kernel_rfl) (fun _ _ _ h => h) (Or.inl ⟨by rfl, ?_⟩) (by assumption) ?_
      rotate_left
      · intro w hSw; (try dsimp only at hSw); go_simp; first | done | with_reducible rfl
      try simp only [Act.put, List.setIfInBounds_toArray, List.set_cons_zero, List.set_cons_succ]
      refine wpAnyH_take (i := 4) (oi := { dst := some 31, op := Op.fieldAddr 26 (Operand.tmp 1) 0, type := 0, pos := "bytes.go:69", after := #[], guard := none }) (v := ?_) rfl (by kernel_rfl) (by kernel_rfl) (by kernel_rfl) (fun _ _ _ h => h) (Or.inl ⟨by rfl, ?_⟩) (by assumption) ?_
      rotate_left
      · intro w hSw; (try dsimp only at hSw); go_simp; first | done | with_reducible rfl
      try simp only [Act.put, List.setIfInBounds_toArray, List.set_cons_zero, List.set_cons_succ]
      refine wpAnyH_take (i := 5) (oi := { dst := some 32, op := Op.load 22 (Operand.tmp 31), type := 22, pos := "bytes.go:69", after := #[{ on := 4, ground := Ground.data }], guard := none }) (v := ?_) rfl (by kernel_rfl) (by kernel_rfl) (by kernel_rfl) (fun _ _ _ h => h) (Or.inl ⟨by rfl, ?_⟩) (by assumption) ?_
      rotate_left
      · intro w hSw; (try dsimp only at hSw); go_simp; first | done | with_reducible rfl
      try simp only [Act.put, List.setIfInBounds_toArray, List.set_cons_zero, List.set_cons_succ]
      refine wpAnyH_take (i := 6) (oi := { dst := some 33, op := Op.call { callee := Callee.builtin Builtin.len, args := #[Operand.tmp 32], argTypes := #[22] }, type := 3, pos := "bytes.go:69", after := #[{ on := 5, ground := Ground.data }], guard := none }) (v := ?_) rfl (by kernel_rfl) (by kernel_rfl) (by kernel_rfl) (fun _ _ _ h => h) (Or.inl ⟨by rfl, ?_⟩) (by assumption) ?_
      rotate_left
      · intro w hSw; (try dsimp only at hSw); go_simp; first | done | with_reducible rfl
      try simp only [Act.put, List.setIfInBounds_toArray, List.set_cons_zero, List.set_cons_succ]
      refine wpAnyH_take (i := 9) (oi := { dst := some 36, op := Op.fieldAddr 26 (Operand.tmp 1) 1, type := 0, pos := "bytes.go:69", after := #[], guard := none }) (v := ?_) rfl (by kernel_rfl) (by kernel_rfl) (by kernel_rfl) (fun _ _ _ h => h) (Or.inl ⟨by rfl, ?_⟩) (by assumption) ?_
      rotate_left
      · intro w hSw; (try dsimp only at hSw); go_simp; first | done | with_reducible rfl
      try simp only [Act.put, List.setIfInBounds_toArray, List.set_cons_zero, List.set_cons_succ]
      refine wpAnyH_take (i := 10) (oi := { dst := some 37, op := Op.load 23 (Operand.tmp 36), type := 23, pos := "bytes.go:69", after := #[{ on := 9, ground := Ground.data }], guard := none }) (v := ?_) rfl (by kernel_rfl) (by kernel_rfl) (by kernel_rfl) (fun _ _ _ h => h) (Or.inl ⟨by rfl, ?_⟩) (by assumption) ?_
      rotate_left
      · intro w hSw; (try dsimp only at hSw); go_simp; first | done | with_reducible rfl
      try simp only [Act.put, List.setIfInBounds_toArray, List.set_cons_zero, List.set_cons_succ]
      refine wpAnyH_take (i := 11) (oi := { dst := some 38, op := Op.call { callee := Callee.builtin Builtin.len, args := #[Operand.tmp 37], argTypes := #[23] }, type := 3, pos := "bytes.go:69", after := #[{ on := 10, ground := Ground.data }], guard := none }) (v := ?_) rfl (by kernel_rfl) (by kernel_rfl) (by kernel_rfl) (fun _ _ _ h => h) (Or.inl ⟨by rfl, ?_⟩) (by assumption) ?_
      rotate_left
      · intro w hSw; (try dsimp only at hSw); go_simp; first | done | with_reducible rfl
      try simp only [Act.put, List.setIfInBounds_toArray, List.set_cons_zero, List.set_cons_succ]
      refine wpAnyH_take (i := 14) (oi := { dst := some 41, op := Op.fieldAddr 26 (Operand.tmp 1) 2, type := 0, pos := "bytes.go:69", after := #[], guard := none }) (v := ?_) rfl (by kernel_rfl) (by kernel_rfl) (by kernel_rfl) (fun _ _ _ h => h) (Or.inl ⟨by rfl, ?_⟩) (by assumption) ?_
      rotate_left
      · intro w hSw; (try dsimp only at hSw); go_simp; first | done | with_reducible rfl
      try simp only [Act.put, List.setIfInBounds_toArray, List.set_cons_zero, List.set_cons_succ]
      refine wpAnyH_take (i := 15) (oi := { dst := some 42, op := Op.load 24 (Operand.tmp 41), type := 24, pos := "bytes.go:69", after := #[{ on := 14, ground := Ground.data }], guard := none }) (v := ?_) rfl (by kernel_rfl) (by kernel_rfl) (by kernel_rfl) (fun _ _ _ h => h) (Or.inl ⟨by rfl, ?_⟩) (by assumption) ?_
      rotate_left
      · intro w hSw; (try dsimp only at hSw); go_simp; first | done | with_reducible rfl
      try simp only [Act.put, List.setIfInBounds_toArray, List.set_cons_zero, List.set_cons_succ]
      refine wpAnyH_take (i := 16) (oi := { dst := some 43, op := Op.call { callee := Callee.builtin Builtin.len, args := #[Operand.tmp 42], argTypes := #[24] }, type := 3, pos := "bytes.go:69", after := #[{ on := 15, ground := Ground.data }], guard := none }) (v := ?_) rfl (by kernel_rfl) (by kernel_rfl) (by kernel_rfl) (fun _ _ _ h => h) (Or.inl ⟨by rfl, ?_⟩) (by assumption) ?_
      rotate_left
      · intro w hSw; (try dsimp only at hSw); go_simp; first | done | with_reducible rfl
      try simp only [Act.put, List.setIfInBounds_toArray, List.set_cons_zero, List.set_cons_succ]
      refine wpAnyH_ready (rs := [2]) (by kernel_rfl) (by simp) ?_
      refine AllReadyH.cons (o := { dst := some 29, op := Op.call { callee := Callee.value (Operand.func 21), args := #[Operand.tmp 28, Operand.const (Value.int IntKind.i64 1)], argTypes := #[3, 3] }, type := 9, pos := "bytes.go:69", after := #[{ on := 1, ground := Ground.data }], guard := none }) rfl (fun K hK => ?_) AllReadyH.nil
      go_simp
      go_wp2_with (go_at_call 21; refine (k1.out _).mono ?_; rintro x wq ⟨rfl, q9⟩; replace d1 := Below.trans d1 (q9.mono d1.size); clear q9)
      refine hK.out _ _ (KS.out _ d1) (fun hHeld => ?_)
      clear hK K
      try simp only [Act.put, List.setIfInBounds_toArray, List.set_cons_zero, List.set_cons_succ]
      refine wpAnyH_take (i := 3) (oi := { dst := some 30, op := Op.binOp BinOp.add 9 (Operand.const (Value.string { data := #[80, 65, 68, 68, 75, 49] })) (Operand.tmp 29) 9, type := 9, pos := "bytes.go:69", after := #[{ on := 2, ground := Ground.data }], guard := none }) (v := ?_) rfl (by kernel_rfl) (by kernel_rfl) (by kernel_rfl) (fun _ _ _ h => h) (Or.inl ⟨by rfl, ?_⟩) (by assumption) ?_
      rotate_left
      · intro w hSw; (try dsimp only at hSw); go_simp; first | done | with_reducible rfl
      try simp only [Act.put, List.setIfInBounds_toArray, List.set_cons_zero, List.set_cons_succ]
      refine wpAnyH_ready (rs := [7]) (by kernel_rfl) (by simp) ?_
      refine AllReadyH.cons (o := { dst := some 34, op := Op.call { callee := Callee.value (Operand.func 21), args := #[Operand.tmp 33, Operand.const (Value.int IntKind.i64 1)], argTypes := #[3, 3] }, type := 9, pos := "bytes.go:69", after := #[{ on := 6, ground := Ground.data }, { on := 2, ground := Ground.chain }], guard := none }) rfl (fun K hK => ?_) AllReadyH.nil
      go_simp
      go_wp2_with (go_at_call 21; refine (k2.out _).mono ?_; rintro x wq ⟨rfl, q9⟩; replace d1 := Below.trans d1 (q9.mono d1.size); clear q9)
      refine hK.out _ _ (KS.out _ d1) (fun hHeld => ?_)
      clear hK K
      try simp only [Act.put, List.setIfInBounds_toArray, List.set_cons_zero, List.set_cons_succ]
      refine wpAnyH_take (i := 8) (oi := { dst := some 35, op := Op.binOp BinOp.add 9 (Operand.tmp 30) (Operand.tmp 34) 9, type := 9, pos := "bytes.go:69", after := #[{ on := 3, ground := Ground.data }, { on := 7, ground := Ground.data }], guard := none }) (v := ?_) rfl (by kernel_rfl) (by kernel_rfl) (by kernel_rfl) (fun _ _ _ h => h) (Or.inl ⟨by rfl, ?_⟩) (by assumption) ?_
      rotate_left
      · intro w hSw; (try dsimp only at hSw); go_simp; first | done | with_reducible rfl
      try simp only [Act.put, List.setIfInBounds_toArray, List.set_cons_zero, List.set_cons_succ]
      refine wpAnyH_ready (rs := [12]) (by kernel_rfl) (by simp) ?_
      refine AllReadyH.cons (o := { dst := some 39, op := Op.call { callee := Callee.value (Operand.func 21), args := #[Operand.tmp 38, Operand.const (Value.int IntKind.i64 1)], argTypes := #[3, 3] }, type := 9, pos := "bytes.go:69", after := #[{ on := 11, ground := Ground.data }, { on := 7, ground := Ground.chain }], guard := none }) rfl (fun K hK => ?_) AllReadyH.nil
      go_simp
      go_wp2_with (go_at_call 21; refine (k3.out _).mono ?_; rintro x wq ⟨rfl, q9⟩; replace d1 := Below.trans d1 (q9.mono d1.size); clear q9)
      refine hK.out _ _ (KS.out _ d1) (fun hHeld => ?_)
      clear hK K
      try simp only [Act.put, List.setIfInBounds_toArray, List.set_cons_zero, List.set_cons_succ]
      refine wpAnyH_take (i := 13) (oi := { dst := some 40, op := Op.binOp BinOp.add 9 (Operand.tmp 35) (Operand.tmp 39) 9, type := 9, pos := "bytes.go:69", after := #[{ on := 8, ground := Ground.data }, { on := 12, ground := Ground.data }], guard := none }) (v := ?_) rfl (by kernel_rfl) (by kernel_rfl) (by kernel_rfl) (fun _ _ _ h => h) (Or.inl ⟨by rfl, ?_⟩) (by assumption) ?_
      rotate_left
      · intro w hSw; (try dsimp only at hSw); go_simp; first | done | with_reducible rfl
      try simp only [Act.put, List.setIfInBounds_toArray, List.set_cons_zero, List.set_cons_succ]
      refine wpAnyH_ready (rs := [17]) (by kernel_rfl) (by simp) ?_
      refine AllReadyH.cons (o := { dst := some 44, op := Op.call { callee := Callee.value (Operand.func 21), args := #[Operand.tmp 43, Operand.const (Value.int IntKind.i64 1)], argTypes := #[3, 3] }, type := 9, pos := "bytes.go:69", after := #[{ on := 16, ground := Ground.data }, { on := 12, ground := Ground.chain }], guard := none }) rfl (fun K hK => ?_) AllReadyH.nil
      go_simp
      go_wp2_with (go_at_call 21; refine (k4.out _).mono ?_; rintro x wq ⟨rfl, q9⟩; replace d1 := Below.trans d1 (q9.mono d1.size); clear q9)
      refine hK.out _ _ (KS.out _ d1) (fun hHeld => ?_)
      clear hK K
      try simp only [Act.put, List.setIfInBounds_toArray, List.set_cons_zero, List.set_cons_succ]
      refine wpAnyH_take (i := 18) (oi := { dst := some 45, op := Op.binOp BinOp.add 9 (Operand.tmp 40) (Operand.tmp 44) 9, type := 9, pos := "bytes.go:69", after := #[{ on := 13, ground := Ground.data }, { on := 17, ground := Ground.data }], guard := none }) (v := ?_) rfl (by kernel_rfl) (by kernel_rfl) (by kernel_rfl) (fun _ _ _ h => h) (Or.inl ⟨by rfl, ?_⟩) (by assumption) ?_
      rotate_left
      · intro w hSw; (try dsimp only at hSw); go_simp; first | done | with_reducible rfl
      try simp only [Act.put, List.setIfInBounds_toArray, List.set_cons_zero, List.set_cons_succ]
      refine wpAnyH_take (i := 19) (oi := { dst := some 5, op := Op.assign (Operand.tmp 45), type := 9, pos := "bytes.go:69", after := #[{ on := 18, ground := Ground.data }, { on := 17, ground := Ground.chain }, { on := 0, ground := Ground.phase }, { on := 1, ground := Ground.phase }, { on := 2, ground := Ground.phase }, { on := 3, ground := Ground.phase }, { on := 4, ground := Ground.phase }, { on := 5, ground := Ground.phase }, { on := 6, ground := Ground.phase }, { on := 7, ground := Ground.phase }, { on := 8, ground := Ground.phase }, { on := 9, ground := Ground.phase }, { on := 10, ground := Ground.phase }, { on := 11, ground := Ground.phase }, { on := 12, ground := Ground.phase }, { on := 13, ground := Ground.phase }, { on := 14, ground := Ground.phase }, { on := 15, ground := Ground.phase }, { on := 16, ground := Ground.phase }, { on := 17, ground := Ground.phase }, { on := 18, ground := Ground.phase }], guard := none }) (v := ?_) rfl (by kernel_rfl) (by kernel_rfl) (by kernel_rfl) (fun _ _ _ h => h) (Or.inl ⟨by rfl, ?_⟩) (by assumption) ?_
      rotate_left
      · intro w hSw; (try dsimp only at hSw); go_simp; first | done | with_reducible rfl
      try simp only [Act.put, List.setIfInBounds_toArray, List.set_cons_zero, List.set_cons_succ]
      refine wpAnyH_done (by kernel_rfl) ?_ _
      clear hHeld KS
      clear k1 k2 k3 k4 a0' q0' a1 q1 a2 q2 a3 q3
      replace L := Hid.mk (below_up L.out (Nat.le_refl _) d1)
      clear d1
      go_upto_region 8 with fail
      generalize wq = W2 at *
      generalize c3 = B3 at *
      generalize hR1 : compsB m.comps ++ (gatesB m.gates ++ []) = R1 at *
      replace hR1 := Hid.mk hR1
      go_loopw [5, 6] (fun y x wr => ∃ (i : Nat) (B : List UInt8), y = .string (str B) ∧ x = .int .i64 i ∧ i ≤ m.regs.length ∧ Hid (B ++ (regsB (m.regs.drop i) ++ R1) = T) ∧ Hid (Below W0.heap.size W0 wr)) (fun _ x _ => m.regs.length - (intOf x).toNat)
      case atStart => exact ⟨0, B3, rfl, rfl, Nat.zero_le _, Hid.mk (by rw [List.drop_zero]; exact e3.out), L⟩
      case round =>
        clear e3 L
        obtain ⟨i, B, rfl, rfl, hi, hE, L⟩ := hrel
        have m0 : wr.cell? ⟨w.heap.size, 0, none⟩ = some (.slice ra m.regs.length rc) := (At.underB BM.out L.out hB.out).2.1 0
        by_cases hn : i < m.regs.length
        · have hi1 : (i : Int) < (m.regs.length : Int) := Int.ofNat_lt.2 hn
          clear m0
          obtain ⟨rb, off, sa, sc, hra, hb1, _, k0, k1, k2, k3, kf⟩ := hm.out.regs i hn
          subst hra
          have hrr := hr1.out _ (List.getElem_mem hn)
          replace hE := hE.out
          rw [regsB_at hn, List.append_assoc, regB_cat] at hE
          generalize hR2 : regsB (m.regs.drop (i + 1)) ++ R1 = R2 at hE
          replace hR2 := Hid.mk hR2
          generalize m.regs[i] = rr at k0 k1 k2 k3 kf hrr hE
          have v3 := u64_len hrr.2.2.2.1
          have v4 := u64_len hrr.2.2.1
          have j1 := Hid.mk (fun W => low_any rr.b 4 W hrr.1 (by decide) (by decide))
          have j2 := Hid.mk (fun W => low_any rr.n 4 W hrr.2.1 (by decide) (by decide))
          have j3 := Hid.mk (fun W => small_any (rr.slots.length : Int) 2 W (by decide) (by decide))
          have j4 := Hid.mk (fun W => small_any (rr.data.length : Int) 2 W (by decide) (by decide))
          rw [v3] at j3
          rw [v4] at j4
          clear v3 v4
          obtain ⟨c0, e0, a0, q0⟩ := step_cat hE hT.out
          obtain ⟨c1, e1, a1, q1⟩ := step_cat e0 hT.out
          obtain ⟨c2, e2, a2, q2⟩ := step_cat e1 hT.out
          clear hE e0 e1
          replace e2 := Hid.mk e2
          generalize leB 4 rr.b = b1 at *
          generalize leB 4 rr.n = b2 at *
          generalize leB 2 (rr.slots.length : Int) = b3 at *
          replace hrr := Hid.mk hrr
          replace kf := Hid.mk kf
          have LW := L.out.mono (Nat.le_of_lt hB.out)
          have d0 := (LW.cell (p := ⟨rb, off + i * 4, none⟩) hb1).trans k0
          have d1 := (LW.cell (p := ⟨rb, off + i * 4 + 1, none⟩) hb1).trans k1
          have d2 := (LW.cell (p := ⟨rb, off + i * 4 + 1 + 1, none⟩) hb1).trans k2
          have d3 := (LW.cell (p := ⟨rb, off + i * 4 + 1 + 1 + 1, none⟩) hb1).trans k3
          have m0 : wr.cell? ⟨w.heap.size, 0, none⟩ = some (.slice (some ⟨rb, off, none⟩) m.regs.length rc) := (At.underB BM.out L.out hB.out).2.1 0
          clear k0 k1 k2 k3 LW
          go_upto_region 11 with fail
          clear d0 d1 d2 d3 m0
          refine wp_world (fun W => At W wr.heap.size (List.toArray [Value.int .u64 rr.b, .int .u64 rr.n, .string (str rr.data), .slice sa rr.slots.length sc]) ∧ Below W0.heap.size W0 W) ⟨At.new wr _ _, below_up L.out (Nat.le_refl _) ((Gr.refl wr).alloc _).below⟩ ?_
          rintro V1 ⟨BX, L1⟩
          clear L
          have L := Hid.mk L1
          clear L1
          replace BX := Hid.mk BX
          generalize wr.heap.size = kx at *
          have KS : Hid (∀ W, Below V1.heap.size V1 W → W.cell? ⟨kx, 0, none⟩ = some (.int .u64 rr.b) ∧ W.cell? ⟨kx, 1, none⟩ = some (.int .u64 rr.n) ∧ W.cell? ⟨kx, 3, none⟩ = some (.slice sa rr.slots.length sc)) := Hid.mk (fun W q => by have A := At.underB BX.out q BX.out.1; exact ⟨A.2.1 0, A.2.1 1, A.2.1 3⟩)
          go_upto_region 11 with fail
          have d1 : Below V1.heap.size V1 V1.drew := ((Gr.refl _).drew).below
          refine wp_region_held_drew (S := (fun W => W.cell? ⟨kx, 0, none⟩ = some (.int .u64 rr.b) ∧ W.cell? ⟨kx, 1, none⟩ = some (.int .u64 rr.n) ∧ W.cell? ⟨kx, 3, none⟩ = some (.slice sa rr.slots.length sc))) (by kernel_rfl) (KS.out _ d1) (fun hHeld => ?_)
          refine wpAnyH_take (i := 0) (oi := { dst := some 58, op := Op.move (Operand.tmp 5), type := 9, pos := "bytes.go:72", after := #[], guard := none }) (v := ?_) rfl (by kernel_rfl) (by kernel_rfl) (by kernel_rfl) (fun _ _ _ h => h) (Or.inl ⟨by rfl, ?_⟩) (by assumption) ?_
          rotate_left
          · intro w hSw; (try dsimp only at hSw); go_simp; first | done | with_reducible rfl
          try simp only [Act.put, List.setIfInBounds_toArray, List.set_cons_zero, List.set_cons_succ]
          refine wpAnyH_take (i := 1) (oi := { dst := some 59, op := Op.fieldAddr 47 (Operand.tmp 7) 0, type := 0, pos := "bytes.go:72", after := #[], guard := none }) (v := ?_) rfl (by kernel_rfl) (by kernel_rfl) (by kernel_rfl) (fun _ _ _ h => h) (Or.inl ⟨by rfl, ?_⟩) (by assumption) ?_
          rotate_left
          · intro w hSw; (try dsimp only at hSw); go_simp; first | done | with_reducible rfl
          try simp only [Act.put, List.setIfInBounds_toArray, List.set_cons_zero, List.set_cons_succ]
          refine wpAnyH_take (i := 2) (oi := { dst := some 60, op := Op.load 38 (Operand.tmp 59), type := 38, pos := "bytes.go:72", after := #[{ on := 1, ground := Ground.data }], guard := none }) (v := ?_) rfl (by kernel_rfl) (by kernel_rfl) (by kernel_rfl) (fun _ _ _ h => h) (Or.inl ⟨by rfl, ?_⟩) (by assumption) ?_
          rotate_left
          · intro w hSw; (try dsimp only at hSw); go_simp; first | done | with_reducible rfl
          try simp only [Act.put, List.setIfInBounds_toArray, List.set_cons_zero, List.set_cons_succ]
          refine wpAnyH_take (i := 5) (oi := { dst := some 63, op := Op.fieldAddr 47 (Operand.tmp 7) 1, type := 0, pos := "bytes.go:72", after := #[], guard := none }) (v := ?_) rfl (by kernel_rfl) (by kernel_rfl) (by kernel_rfl) (fun _ _ _ h => h) (Or.inl ⟨by rfl, ?_⟩) (by assumption) ?_
          rotate_left
          · intro w hSw; (try dsimp only at hSw); go_simp; first | done | with_reducible rfl
          try simp only [Act.put, List.setIfInBounds_toArray, List.set_cons_zero, List.set_cons_succ]
          refine wpAnyH_take (i := 6) (oi := { dst := some 64, op := Op.load 38 (Operand.tmp 63), type := 38, pos := "bytes.go:72", after := #[{ on := 5, ground := Ground.data }], guard := none }) (v := ?_) rfl (by kernel_rfl) (by kernel_rfl) (by kernel_rfl) (fun _ _ _ h => h) (Or.inl ⟨by rfl, ?_⟩) (by assumption) ?_
          rotate_left
          · intro w hSw; (try dsimp only at hSw); go_simp; first | done | with_reducible rfl
          try simp only [Act.put, List.setIfInBounds_toArray, List.set_cons_zero, List.set_cons_succ]
          refine wpAnyH_take (i := 9) (oi := { dst := some 67, op := Op.fieldAddr 47 (Operand.tmp 7) 3, type := 0, pos := "bytes.go:72", after := #[], guard := none }) (v := ?_) rfl (by kernel_rfl) (by kernel_rfl) (by kernel_rfl) (fun _ _ _ h => h) (Or.inl ⟨by rfl, ?_⟩) (by assumption) ?_
          rotate_left
          · intro w hSw; (try dsimp only at hSw); go_simp; first | done | with_reducible rfl
          try simp only [Act.put, List.setIfInBounds_toArray, List.set_cons_zero, List.set_cons_succ]
          refine wpAnyH_take (i := 10) (oi := { dst := some 68, op := Op.load 45 (Operand.tmp 67), type := 45, pos := "bytes.go:72", after := #[{ on := 9, ground := Ground.data }], guard := none }) (v := ?_) rfl (by kernel_rfl) (by kernel_rfl) (by kernel_rfl) (fun _ _ _ h => h) (Or.inl ⟨by rfl, ?_⟩) (by assumption) ?_
          rotate_left
          · intro w hSw; (try dsimp only at hSw); go_simp; first | done | with_reducible rfl
          try simp only [Act.put, List.setIfInBounds_toArray, List.set_cons_zero, List.set_cons_succ]
          refine wpAnyH_take (i := 11) (oi := { dst := some 69, op := Op.call { callee := Callee.builtin Builtin.len, args := #[Operand.tmp 68], argTypes := #[45] }, type := 3, pos := "bytes.go:72", after := #[{ on := 10, ground := Ground.data }], guard := none }) (v := ?_) rfl (by kernel_rfl) (by kernel_rfl) (by kernel_rfl) (fun _ _ _ h => h) (Or.inl ⟨by rfl, ?_⟩) (by assumption) ?_
          rotate_left
          · intro w hSw; (try dsimp only at hSw); go_simp; first | done | with_reducible rfl
          try simp only [Act.put, List.setIfInBounds_toArray, List.set_cons_zero, List.set_cons_succ]
          refine wpAnyH_ready (rs := [3]) (by kernel_rfl) (by simp) ?_
          refine AllReadyH.cons (o := { dst := some 61, op := Op.call { callee := Callee.value (Operand.func 22), args := #[Operand.tmp 60, Operand.const (Value.int IntKind.i64 4)], argTypes := #[38, 3] }, type := 9, pos := "bytes.go:72", after := #[{ on := 2, ground := Ground.data }], guard := none }) rfl (fun K hK => ?_) AllReadyH.nil
          go_simp
          go_wp2_with (go_at_call 22; refine (j1.out _).mono ?_; rintro x wq ⟨rfl, q9⟩; replace d1 := Below.trans d1 (q9.mono d1.size); clear q9)
          refine hK.out _ _ (KS.out _ d1) (fun hHeld => ?_)
          clear hK K
          try simp only [Act.put, List.setIfInBounds_toArray, List.set_cons_zero, List.set_cons_succ]
          refine wpAnyH_take (i := 4) (oi := { dst := some 62, op := Op.binOp BinOp.add 9 (Operand.tmp 58) (Operand.tmp 61) 9, type := 9, pos := "bytes.go:72", after := #[{ on := 0, ground := Ground.data }, { on := 3, ground := Ground.data }], guard := none }) (v := ?_) rfl (by kernel_rfl) (by kernel_rfl) (by kernel_rfl) (fun _ _ _ h => h) (Or.inl ⟨by rfl, ?_⟩) (by assumption) ?_
          rotate_left
          · intro w hSw; (try dsimp only at hSw); go_simp; first | done | with_reducible rfl
          try simp only [Act.put, List.setIfInBounds_toArray, List.set_cons_zero, List.set_cons_succ]
          refine wpAnyH_ready (rs := [7]) (by kernel_rfl) (by simp) ?_
          refine AllReadyH.cons (o := { dst := some 65, op := Op.call { callee := Callee.value (Operand.func 22), args := #[Operand.tmp 64, Operand.const (Value.int IntKind.i64 4)], argTypes := #[38, 3] }, type := 9, pos := "bytes.go:72", after := #[{ on := 6, ground := Ground.data }, { on := 3, ground := Ground.chain }], guard := none }) rfl (fun K hK => ?_) AllReadyH.nil
          go_simp
          go_wp2_with (go_at_call 22; refine (j2.out _).mono ?_; rintro x wq ⟨rfl, q9⟩; replace d1 := Below.trans d1 (q9.mono d1.size); clear q9)
          refine hK.out _ _ (KS.out _ d1) (fun hHeld => ?_)
          clear hK K
          try simp only [Act.put, List.setIfInBounds_toArray, List.set_cons_zero, List.set_cons_succ]
          refine wpAnyH_take (i := 8) (oi := { dst := some 66, op := Op.binOp BinOp.add 9 (Operand.tmp 62) (Operand.tmp 65) 9, type := 9, pos := "bytes.go:72", after := #[{ on := 4, ground := Ground.data }, { on := 7, ground := Ground.data }], guard := none }) (v := ?_) rfl (by kernel_rfl) (by kernel_rfl) (by kernel_rfl) (fun _ _ _ h => h) (Or.inl ⟨by rfl, ?_⟩) (by assumption) ?_
          rotate_left
          · intro w hSw; (try dsimp only at hSw); go_simp; first | done | with_reducible rfl
          try simp only [Act.put, List.setIfInBounds_toArray, List.set_cons_zero, List.set_cons_succ]
          refine wpAnyH_ready (rs := [12]) (by kernel_rfl) (by simp) ?_
          refine AllReadyH.cons (o := { dst := some 70, op := Op.call { callee := Callee.value (Operand.func 21), args := #[Operand.tmp 69, Operand.const (Value.int IntKind.i64 2)], argTypes := #[3, 3] }, type := 9, pos := "bytes.go:72", after := #[{ on := 11, ground := Ground.data }, { on := 7, ground := Ground.chain }], guard := none }) rfl (fun K hK => ?_) AllReadyH.nil
          go_simp
          go_wp2_with (go_at_call 21; refine (j3.out _).mono ?_; rintro x wq ⟨rfl, q9⟩; replace d1 := Below.trans d1 (q9.mono d1.size); clear q9)
          refine hK.out _ _ (KS.out _ d1) (fun hHeld => ?_)
          clear hK K
          try simp only [Act.put, List.setIfInBounds_toArray, List.set_cons_zero, List.set_cons_succ]
          refine wpAnyH_take (i := 13) (oi := { dst := some 71, op := Op.binOp BinOp.add 9 (Operand.tmp 66) (Operand.tmp 70) 9, type := 9, pos := "bytes.go:72", after := #[{ on := 8, ground := Ground.data }, { on := 12, ground := Ground.data }], guard := none }) (v := ?_) rfl (by kernel_rfl) (by kernel_rfl) (by kernel_rfl) (fun _ _ _ h => h) (Or.inl ⟨by rfl, ?_⟩) (by assumption) ?_
          rotate_left
          · intro w hSw; (try dsimp only at hSw); go_simp; first | done | with_reducible rfl
          try simp only [Act.put, List.setIfInBounds_toArray, List.set_cons_zero, List.set_cons_succ]
          refine wpAnyH_take (i := 14) (oi := { dst := some 5, op := Op.assign (Operand.tmp 71), type := 9, pos := "bytes.go:72", after := #[{ on := 13, ground := Ground.data }, { on := 12, ground := Ground.chain }, { on := 0, ground := Ground.phase }, { on := 1, ground := Ground.phase }, { on := 2, ground := Ground.phase }, { on := 3, ground := Ground.phase }, { on := 4, ground := Ground.phase }, { on := 5, ground := Ground.phase }, { on := 6, ground := Ground.phase }, { on := 7, ground := Ground.phase }, { on := 8, ground := Ground.phase }, { on := 9, ground := Ground.phase }, { on := 10, ground := Ground.phase }, { on := 11, ground := Ground.phase }, { on := 12, ground := Ground.phase }, { on := 13, ground := Ground.phase }], guard := none }) (v := ?_) rfl (by kernel_rfl) (by kernel_rfl) (by kernel_rfl) (fun _ _ _ h => h) (Or.inl ⟨by rfl, ?_⟩) (by assumption) ?_
          rotate_left
          · intro w hSw; (try dsimp only at hSw); go_simp; first | done | with_reducible rfl
          try simp only [Act.put, List.setIfInBounds_toArray, List.set_cons_zero, List.set_cons_succ]
          refine wpAnyH_done (by kernel_rfl) ?_ _
          clear hHeld KS
          clear j1 j2 j3 a0 q0 a1 q1 a2 q2
          replace BX := Hid.mk (At.underB BX.out d1 BX.out.1)
          replace L := Hid.mk (below_up L.out (Nat.le_refl _) d1)
          clear d1
          generalize wq = V2 at *
          by_cases hz : rr.slots.length = 0
          · have hz1 : ((rr.slots.length : Int) == 0) = true := by simp [hz]
            replace e2 := e2.out
            rw [dataB_some hz] at e2
            replace hz := Hid.mk hz
            obtain ⟨c3, e3, a3, q3⟩ := step_cat e2 hT.out
            obtain ⟨c4, e4, a4, q4⟩ := step_cat e3 hT.out
            clear e2 e3
            replace e4 := Hid.mk e4
            generalize leB 2 (rr.data.length : Int) = b4 at *
            have ss : (str rr.data).size = rr.data.length := str_size _
            rw [ss] at q4
            have x3 : V2.cell? ⟨kx, 3, none⟩ = some (.slice sa rr.slots.length sc) := BX.out.2.1 3
            have KS : Hid (∀ W, Below V2.heap.size V2 W → W.cell? ⟨kx, 2, none⟩ = some (.string (str rr.data))) := Hid.mk (fun W q => (At.underB BX.out q BX.out.1).2.1 2)
            go_upto_region 13 with fail
            clear x3
            have d1 : Below V2.heap.size V2 V2.drew := ((Gr.refl _).drew).below
            refine wp_region_held_drew (S := (fun W => W.cell? ⟨kx, 2, none⟩ = some (.string (str rr.data)))) (by kernel_rfl) (KS.out _ d1) (fun hHeld => ?_)
            refine wpAnyH_take (i := 0) (oi := { dst := some 76, op := Op.move (Operand.tmp 5), type := 9, pos := "bytes.go:74", after := #[], guard := none }) (v := ?_) rfl (by kernel_rfl) (by kernel_rfl) (by kernel_rfl) (fun _ _ _ h => h) (Or.inl ⟨by rfl, ?_⟩) (by assumption) ?_
            rotate_left
            · intro w hSw; (try dsimp only at hSw); go_simp; first | done | with_reducible rfl
            try simp only [Act.put, List.setIfInBounds_toArray, List.set_cons_zero, List.set_cons_succ]
            refine wpAnyH_take (i := 1) (oi := { dst := some 77, op := Op.fieldAddr 47 (Operand.tmp 7) 2, type := 0, pos := "bytes.go:74", after := #[], guard := none }) (v := ?_) rfl (by kernel_rfl) (by kernel_rfl) (by kernel_rfl) (fun _ _ _ h => h) (Or.inl ⟨by rfl, ?_⟩) (by assumption) ?_
            rotate_left
            · intro w hSw; (try dsimp only at hSw); go_simp; first | done | with_reducible rfl
            try simp only [Act.put, List.setIfInBounds_toArray, List.set_cons_zero, List.set_cons_succ]
            refine wpAnyH_take (i := 2) (oi := { dst := some 78, op := Op.load 9 (Operand.tmp 77), type := 9, pos := "bytes.go:74", after := #[{ on := 1, ground := Ground.data }], guard := none }) (v := ?_) rfl (by kernel_rfl) (by kernel_rfl) (by kernel_rfl) (fun _ _ _ h => h) (Or.inl ⟨by rfl, ?_⟩) (by assumption) ?_
            rotate_left
            · intro w hSw; (try dsimp only at hSw); go_simp; first | done | with_reducible rfl
            try simp only [Act.put, List.setIfInBounds_toArray, List.set_cons_zero, List.set_cons_succ]
            refine wpAnyH_take (i := 3) (oi := { dst := some 79, op := Op.call { callee := Callee.builtin Builtin.len, args := #[Operand.tmp 78], argTypes := #[9] }, type := 3, pos := "bytes.go:74", after := #[{ on := 2, ground := Ground.data }], guard := none }) (v := ?_) rfl (by kernel_rfl) (by kernel_rfl) (by kernel_rfl) (fun _ _ _ h => h) (Or.inl ⟨by rfl, ?_⟩) (by assumption) ?_
            rotate_left
            · intro w hSw; (try dsimp only at hSw); go_simp; first | done | with_reducible rfl
            try simp only [Act.put, List.setIfInBounds_toArray, List.set_cons_zero, List.set_cons_succ]
            refine wpAnyH_take (i := 6) (oi := { dst := some 82, op := Op.fieldAddr 47 (Operand.tmp 7) 2, type := 0, pos := "bytes.go:74", after := #[], guard := none }) (v := ?_) rfl (by kernel_rfl) (by kernel_rfl) (by kernel_rfl) (fun _ _ _ h => h) (Or.inl ⟨by rfl, ?_⟩) (by assumption) ?_
            rotate_left
            · intro w hSw; (try dsimp only at hSw); go_simp; first | done | with_reducible rfl
            try simp only [Act.put, List.setIfInBounds_toArray, List.set_cons_zero, List.set_cons_succ]
            refine wpAnyH_take (i := 7) (oi := { dst := some 83, op := Op.load 9 (Operand.tmp 82), type := 9, pos := "bytes.go:74", after := #[{ on := 6, ground := Ground.data }], guard := none }) (v := ?_) rfl (by kernel_rfl) (by kernel_rfl) (by kernel_rfl) (fun _ _ _ h => h) (Or.inl ⟨by rfl, ?_⟩) (by assumption) ?_
            rotate_left
            · intro w hSw; (try dsimp only at hSw); go_simp; first | done | with_reducible rfl
            try simp only [Act.put, List.setIfInBounds_toArray, List.set_cons_zero, List.set_cons_succ]
            refine wpAnyH_ready (rs := [4]) (by kernel_rfl) (by simp) ?_
            refine AllReadyH.cons (o := { dst := some 80, op := Op.call { callee := Callee.value (Operand.func 21), args := #[Operand.tmp 79, Operand.const (Value.int IntKind.i64 2)], argTypes := #[3, 3] }, type := 9, pos := "bytes.go:74", after := #[{ on := 3, ground := Ground.data }], guard := none }) rfl (fun K hK => ?_) AllReadyH.nil
            go_simp
            go_wp2_with (go_at_call 21; refine (j4.out _).mono ?_; rintro x wq ⟨rfl, q9⟩; replace d1 := Below.trans d1 (q9.mono d1.size); clear q9)
            refine hK.out _ _ (KS.out _ d1) (fun hHeld => ?_)
            clear hK K
            try simp only [Act.put, List.setIfInBounds_toArray, List.set_cons_zero, List.set_cons_succ]
            refine wpAnyH_take (i := 5) (oi := { dst := some 81, op := Op.binOp BinOp.add 9 (Operand.tmp 76) (Operand.tmp 80) 9, type := 9, pos := "bytes.go:74", after := #[{ on := 0, ground := Ground.data }, { on := 4, ground := Ground.data }], guard := none }) (v := ?_) rfl (by kernel_rfl) (by kernel_rfl) (by kernel_rfl) (fun _ _ _ h => h) (Or.inl ⟨by rfl, ?_⟩) (by assumption) ?_
            rotate_left
            · intro w hSw; (try dsimp only at hSw); go_simp; first | done | with_reducible rfl
            try simp only [Act.put, List.setIfInBounds_toArray, List.set_cons_zero, List.set_cons_succ]
            refine wpAnyH_take (i := 8) (oi := { dst := some 84, op := Op.binOp BinOp.add 9 (Operand.tmp 81) (Operand.tmp 83) 9, type := 9, pos := "bytes.go:74", after := #[{ on := 5, ground := Ground.data }, { on := 7, ground := Ground.data }], guard := none }) (v := ?_) rfl (by kernel_rfl) (by kernel_rfl) (by kernel_rfl) (fun _ _ _ h => h) (Or.inl ⟨by rfl, ?_⟩) (by assumption) ?_
            rotate_left
            · intro w hSw; (try dsimp only at hSw); go_simp; first | done | with_reducible rfl
            try simp only [Act.put, List.setIfInBounds_toArray, List.set_cons_zero, List.set_cons_succ]
            refine wpAnyH_take (i := 9) (oi := { dst := some 5, op := Op.assign (Operand.tmp 84), type := 9, pos := "bytes.go:74", after := #[{ on := 8, ground := Ground.data }, { on := 4, ground := Ground.chain }, { on := 0, ground := Ground.phase }, { on := 1, ground := Ground.phase }, { on := 2, ground := Ground.phase }, { on := 3, ground := Ground.phase }, { on := 4, ground := Ground.phase }, { on := 5, ground := Ground.phase }, { on := 6, ground := Ground.phase }, { on := 7, ground := Ground.phase }, { on := 8, ground := Ground.phase }], guard := none }) (v := ?_) rfl (by kernel_rfl) (by kernel_rfl) (by kernel_rfl) (fun _ _ _ h => h) (Or.inl ⟨by rfl, ?_⟩) (by assumption) ?_
            rotate_left
            · intro w hSw; (try dsimp only at hSw); go_simp; first | done | with_reducible rfl
            try simp only [Act.put, List.setIfInBounds_toArray, List.set_cons_zero, List.set_cons_succ]
            refine wpAnyH_done (by kernel_rfl) ?_ _
            clear hHeld KS
            clear j4 a3 q3 a4 q4 ss hz1
            replace BX := Hid.mk (At.underB BX.out d1 BX.out.1)
            replace L := Hid.mk (below_up L.out (Nat.le_refl _) d1)
            clear d1
            generalize wq = V3 at *
            have x3 : V3.cell? ⟨kx, 3, none⟩ = some (.slice sa rr.slots.length sc) := BX.out.2.1 3
            go_upto_region 15 with fail
            clear x3
            go_loopw [5, 8] (fun y x ws => ∃ (k : Nat) (B : List UInt8), y = .string (str B) ∧ x = .int .i64 k ∧ k ≤ rr.slots.length ∧ Hid (B ++ (slotsB (rr.slots.drop k) ++ R2) = T) ∧ Hid (Below V3.heap.size V3 ws)) (fun _ x _ => rr.slots.length - (intOf x).toNat)
            case atStart => exact ⟨0, c4, rfl, rfl, Nat.zero_le _, Hid.mk (by rw [List.drop_zero]; exact e4.out), Hid.mk (Below.refl _ _)⟩
            case round =>
              clear e4
              obtain ⟨k, B, rfl, rfl, hk, hF, LL⟩ := hrel
              generalize wr = ws at *
              by_cases hkn : k < rr.slots.length
              · obtain ⟨sb, so, hsa, hs1, _, hcell⟩ := kf.out k hkn
                subst hsa
                have hsr := hrr.out.2.2.2.2 _ (List.getElem_mem hkn)
                replace hF := hF.out
                rw [slotsB_at hkn, List.append_assoc, slotB_cat] at hF
                generalize rr.slots[k] = sl at hcell hF hsr
                obtain ⟨f0, g0, a0, q0⟩ := step_cat hF hT.out
                obtain ⟨f1, g1, a1, q1⟩ := step_cat g0 hT.out
                clear hF g0
                replace g1 := Hid.mk g1
                have t1 := Hid.mk (fun W => show Calls Tryz.prog 23 #[.agg (PTyp.vals sl.t).toArray] W _ from refTyped_any sl.t W hsr.1)
                have t2 := Hid.mk (fun W => low_any sl.c 8 W hsr.2 (by decide) (by decide))
                generalize typB sl.t = b1 at *
                generalize leB 8 sl.c = b2 at *
                replace hcell := Hid.mk hcell
                have hkn1 : (k : Int) < (rr.slots.length : Int) := Int.ofNat_lt.2 hkn
                have KS : Hid (∀ W, Below ws.heap.size ws W → W.cell? ⟨kx, 3, none⟩ = some (.slice (some ⟨sb, so, none⟩) rr.slots.length sc) ∧ W.cell? ⟨sb, so + k * 8 + 7, none⟩ = some (.int .u64 sl.c) ∧ W.rangeAt sb (so + k * 8) (PTyp.vals sl.t)) := Hid.mk (fun W q => by have hLW := below_up (below_up L.out (Nat.le_refl _) LL.out) (Nat.le_refl _) q; have A := At.underB BX.out (below_up LL.out (Nat.le_refl _) q) BX.out.1; have C := slot_cells (fun j hj => ((hLW.mono (Nat.le_of_lt hB.out)).cell (p := ⟨sb, so + k * 8 + j, none⟩) hs1).trans (hcell.out j hj)); exact ⟨A.2.1 3, C.2, C.1⟩)
                have x3 : ws.cell? ⟨kx, 3, none⟩ = some (.slice (some ⟨sb, so, none⟩) rr.slots.length sc) := (At.underB BX.out LL.out BX.out.1).2.1 3
                go_upto_region 17 with fail
                clear x3
                have d1 : Below ws.heap.size ws ws.drew := ((Gr.refl _).drew).below
                refine wp_region_held_drew (S := (fun W => W.cell? ⟨kx, 3, none⟩ = some (.slice (some ⟨sb, so, none⟩) rr.slots.length sc) ∧ W.cell? ⟨sb, so + k * 8 + 7, none⟩ = some (.int .u64 sl.c) ∧ W.rangeAt sb (so + k * 8) (PTyp.vals sl.t))) (by kernel_rfl) (KS.out _ d1) (fun hHeld => ?_)
                refine wpAnyH_take (i := 0) (oi := { dst := some 92, op := Op.move (Operand.tmp 5), type := 9, pos := "bytes.go:77", after := #[], guard := none }) (v := ?_) rfl (by kernel_rfl) (by kernel_rfl) (by kernel_rfl) (fun _ _ _ h => h) (Or.inl ⟨by rfl, ?_⟩) (by assumption) ?_
                rotate_left
                · intro w hSw; (try dsimp only at hSw); go_simp; first | done | with_reducible rfl
                try simp only [Act.put, List.setIfInBounds_toArray, List.set_cons_zero, List.set_cons_succ]
                refine wpAnyH_take (i := 1) (oi := { dst := some 93, op := Op.fieldAddr 47 (Operand.tmp 7) 3, type := 0, pos := "bytes.go:77", after := #[], guard := none }) (v := ?_) rfl (by kernel_rfl) (by kernel_rfl) (by kernel_rfl) (fun _ _ _ h => h) (Or.inl ⟨by rfl, ?_⟩) (by assumption) ?_
                rotate_left
                · intro w hSw; (try dsimp only at hSw); go_simp; first | done | with_reducible rfl
                try simp only [Act.put, List.setIfInBounds_toArray, List.set_cons_zero, List.set_cons_succ]
                refine wpAnyH_take (i := 2) (oi := { dst := some 94, op := Op.load 45 (Operand.tmp 93), type := 45, pos := "bytes.go:77", after := #[{ on := 1, ground := Ground.data }], guard := none }) (v := ?_) rfl (by kernel_rfl) (by kernel_rfl) (by kernel_rfl) (fun _ _ _ h => h) (Or.inl ⟨by rfl, ?_⟩) (by assumption) ?_
                rotate_left
                · intro w hSw; (try dsimp only at hSw); go_simp; first | done | with_reducible rfl
                try simp only [Act.put, List.setIfInBounds_toArray, List.set_cons_zero, List.set_cons_succ]
                refine wpAnyH_take (i := 3) (oi := { dst := some 95, op := Op.move (Operand.tmp 8), type := 3, pos := "bytes.go:77", after := #[], guard := none }) (v := ?_) rfl (by kernel_rfl) (by kernel_rfl) (by kernel_rfl) (fun _ _ _ h => h) (Or.inl ⟨by rfl, ?_⟩) (by assumption) ?_
                rotate_left
                · intro w hSw; (try dsimp only at hSw); go_simp; first | done | with_reducible rfl
                try simp only [Act.put, List.setIfInBounds_toArray, List.set_cons_zero, List.set_cons_succ]
                refine wpAnyH_take (i := 4) (oi := { dst := some 96, op := Op.indexAddr 45 (Operand.tmp 94) (Operand.tmp 95), type := 0, pos := "bytes.go:77", after := #[{ on := 2, ground := Ground.data }, { on := 3, ground := Ground.data }], guard := none }) (v := ?_) rfl (by kernel_rfl) (by kernel_rfl) (by kernel_rfl) (fun _ _ _ h => h) (Or.inl ⟨by rfl, ?_⟩) (by assumption) ?_
                rotate_left
                · intro w hSw; (try dsimp only at hSw); go_simp; first | done | with_reducible rfl
                try simp only [Act.put, List.setIfInBounds_toArray, List.set_cons_zero, List.set_cons_succ]
                refine wpAnyH_take (i := 5) (oi := { dst := some 97, op := Op.fieldAddr 68 (Operand.tmp 96) 0, type := 0, pos := "bytes.go:77", after := #[{ on := 4, ground := Ground.data }], guard := none }) (v := ?_) rfl (by kernel_rfl) (by kernel_rfl) (by kernel_rfl) (fun _ _ _ h => h) (Or.inl ⟨by rfl, ?_⟩) (by assumption) ?_
                rotate_left
                · intro w hSw; (try dsimp only at hSw); go_simp; first | done | with_reducible rfl
                try simp only [Act.put, List.setIfInBounds_toArray, List.set_cons_zero, List.set_cons_succ]
                refine wpAnyH_take (i := 6) (oi := { dst := some 98, op := Op.load 66 (Operand.tmp 97), type := 66, pos := "bytes.go:77", after := #[{ on := 5, ground := Ground.data }], guard := none }) (v := _) rfl (by kernel_rfl) (by kernel_rfl) (by kernel_rfl) (fun _ _ _ h => h) (yieldsIf_load_mid (by rfl) _ _ rfl _ _ rfl _ _ (fun _ h => h.2.2) Tryz.underlying66 rfl (by kernel_rfl)) (by assumption) ?_
                try simp only [Act.put, List.setIfInBounds_toArray, List.set_cons_zero, List.set_cons_succ]
                refine wpAnyH_take (i := 9) (oi := { dst := some 101, op := Op.fieldAddr 47 (Operand.tmp 7) 3, type := 0, pos := "bytes.go:77", after := #[], guard := none }) (v := ?_) rfl (by kernel_rfl) (by kernel_rfl) (by kernel_rfl) (fun _ _ _ h => h) (Or.inl ⟨by rfl, ?_⟩) (by assumption) ?_
                rotate_left
                · intro w hSw; (try dsimp only at hSw); go_simp; first | done | with_reducible rfl
                try simp only [Act.put, List.setIfInBounds_toArray, List.set_cons_zero, List.set_cons_succ]
                refine wpAnyH_take (i := 10) (oi := { dst := some 102, op := Op.load 45 (Operand.tmp 101), type := 45, pos := "bytes.go:77", after := #[{ on := 9, ground := Ground.data }], guard := none }) (v := ?_) rfl (by kernel_rfl) (by kernel_rfl) (by kernel_rfl) (fun _ _ _ h => h) (Or.inl ⟨by rfl, ?_⟩) (by assumption) ?_
                rotate_left
                · intro w hSw; (try dsimp only at hSw); go_simp; first | done | with_reducible rfl
                try simp only [Act.put, List.setIfInBounds_toArray, List.set_cons_zero, List.set_cons_succ]
                refine wpAnyH_take (i := 11) (oi := { dst := some 103, op := Op.move (Operand.tmp 8), type := 3, pos := "bytes.go:77", after := #[], guard := none }) (v := ?_) rfl (by kernel_rfl) (by kernel_rfl) (by kernel_rfl) (fun _ _ _ h => h) (Or.inl ⟨by rfl, ?_⟩) (by assumption) ?_
                rotate_left
                · intro w hSw; (try dsimp only at hSw); go_simp; first | done | with_reducible rfl
                try simp only [Act.put, List.setIfInBounds_toArray, List.set_cons_zero, List.set_cons_succ]
                refine wpAnyH_take (i := 12) (oi := { dst := some 104, op := Op.indexAddr 45 (Operand.tmp 102) (Operand.tmp 103), type := 0, pos := "bytes.go:77", after := #[{ on := 10, ground := Ground.data }, { on := 11, ground := Ground.data }], guard := none }) (v := ?_) rfl (by kernel_rfl) (by kernel_rfl) (by kernel_rfl) (fun _ _ _ h => h) (Or.inl ⟨by rfl, ?_⟩) (by assumption) ?_
                rotate_left
                · intro w hSw; (try dsimp only at hSw); go_simp; first | done | with_reducible rfl
                try simp only [Act.put, List.setIfInBounds_toArray, List.set_cons_zero, List.set_cons_succ]
                refine wpAnyH_take (i := 13) (oi := { dst := some 105, op := Op.fieldAddr 68 (Operand.tmp 104) 1, type := 0, pos := "bytes.go:77", after := #[{ on := 12, ground := Ground.data }], guard := none }) (v := ?_) rfl (by kernel_rfl) (by kernel_rfl) (by kernel_rfl) (fun _ _ _ h => h) (Or.inl ⟨by rfl, ?_⟩) (by assumption) ?_
                rotate_left
                · intro w hSw; (try dsimp only at hSw); go_simp; first | done | with_reducible rfl
                try simp only [Act.put, List.setIfInBounds_toArray, List.set_cons_zero, List.set_cons_succ]
                refine wpAnyH_take (i := 14) (oi := { dst := some 106, op := Op.load 38 (Operand.tmp 105), type := 38, pos := "bytes.go:77", after := #[{ on := 13, ground := Ground.data }], guard := none }) (v := ?_) rfl (by kernel_rfl) (by kernel_rfl) (by kernel_rfl) (fun _ _ _ h => h) (Or.inl ⟨by rfl, ?_⟩) (by assumption) ?_
                rotate_left
                · intro w hSw; (try dsimp only at hSw); go_simp; first | done | with_reducible rfl
                try simp only [Act.put, List.setIfInBounds_toArray, List.set_cons_zero, List.set_cons_succ]
                refine wpAnyH_ready (rs := [7]) (by kernel_rfl) (by simp) ?_
                refine AllReadyH.cons (o := { dst := some 99, op := Op.call { callee := Callee.value (Operand.func 23), args := #[Operand.tmp 98], argTypes := #[66] }, type := 9, pos := "bytes.go:77", after := #[{ on := 6, ground := Ground.data }], guard := none }) rfl (fun K hK => ?_) AllReadyH.nil
                go_simp
                go_wp2_with (go_at_call 23; refine (t1.out _).mono ?_; rintro x wq ⟨rfl, q9⟩; replace d1 := Below.trans d1 (q9.mono d1.size); clear q9)
                refine hK.out _ _ (KS.out _ d1) (fun hHeld => ?_)
                clear hK K
                try simp only [Act.put, List.setIfInBounds_toArray, List.set_cons_zero, List.set_cons_succ]
                refine wpAnyH_take (i := 8) (oi := { dst := some 100, op := Op.binOp BinOp.add 9 (Operand.tmp 92) (Operand.tmp 99) 9, type := 9, pos := "bytes.go:77", after := #[{ on := 0, ground := Ground.data }, { on := 7, ground := Ground.data }], guard := none }) (v := ?_) rfl (by kernel_rfl) (by kernel_rfl) (by kernel_rfl) (fun _ _ _ h => h) (Or.inl ⟨by rfl, ?_⟩) (by assumption) ?_
                rotate_left
                · intro w hSw; (try dsimp only at hSw); go_simp; first | done | with_reducible rfl
                try simp only [Act.put, List.setIfInBounds_toArray, List.set_cons_zero, List.set_cons_succ]
                refine wpAnyH_ready (rs := [15]) (by kernel_rfl) (by simp) ?_
                refine AllReadyH.cons (o := { dst := some 107, op := Op.call { callee := Callee.value (Operand.func 22), args := #[Operand.tmp 106, Operand.const (Value.int IntKind.i64 8)], argTypes := #[38, 3] }, type := 9, pos := "bytes.go:77", after := #[{ on := 14, ground := Ground.data }, { on := 7, ground := Ground.chain }], guard := none }) rfl (fun K hK => ?_) AllReadyH.nil
                go_simp
                go_wp2_with (go_at_call 22; refine (t2.out _).mono ?_; rintro x wq ⟨rfl, q9⟩; replace d1 := Below.trans d1 (q9.mono d1.size); clear q9)
                refine hK.out _ _ (KS.out _ d1) (fun hHeld => ?_)
                clear hK K
                try simp only [Act.put, List.setIfInBounds_toArray, List.set_cons_zero, List.set_cons_succ]
                refine wpAnyH_take (i := 16) (oi := { dst := some 108, op := Op.binOp BinOp.add 9 (Operand.tmp 100) (Operand.tmp 107) 9, type := 9, pos := "bytes.go:77", after := #[{ on := 8, ground := Ground.data }, { on := 15, ground := Ground.data }], guard := none }) (v := ?_) rfl (by kernel_rfl) (by kernel_rfl) (by kernel_rfl) (fun _ _ _ h => h) (Or.inl ⟨by rfl, ?_⟩) (by assumption) ?_
                rotate_left
                · intro w hSw; (try dsimp only at hSw); go_simp; first | done | with_reducible rfl
                try simp only [Act.put, List.setIfInBounds_toArray, List.set_cons_zero, List.set_cons_succ]
                refine wpAnyH_take (i := 17) (oi := { dst := some 5, op := Op.assign (Operand.tmp 108), type := 9, pos := "bytes.go:77", after := #[{ on := 16, ground := Ground.data }, { on := 15, ground := Ground.chain }, { on := 0, ground := Ground.phase }, { on := 1, ground := Ground.phase }, { on := 2, ground := Ground.phase }, { on := 3, ground := Ground.phase }, { on := 4, ground := Ground.phase }, { on := 5, ground := Ground.phase }, { on := 6, ground := Ground.phase }, { on := 7, ground := Ground.phase }, { on := 8, ground := Ground.phase }, { on := 9, ground := Ground.phase }, { on := 10, ground := Ground.phase }, { on := 11, ground := Ground.phase }, { on := 12, ground := Ground.phase }, { on := 13, ground := Ground.phase }, { on := 14, ground := Ground.phase }, { on := 15, ground := Ground.phase }, { on := 16, ground := Ground.phase }], guard := none }) (v := ?_) rfl (by kernel_rfl) (by kernel_rfl) (by kernel_rfl) (fun _ _ _ h => h) (Or.inl ⟨by rfl, ?_⟩) (by assumption) ?_
                rotate_left
                · intro w hSw; (try dsimp only at hSw); go_simp; first | done | with_reducible rfl
                try simp only [Act.put, List.setIfInBounds_toArray, List.set_cons_zero, List.set_cons_succ]
                refine wpAnyH_done (by kernel_rfl) ?_ _
                clear hHeld KS
                replace LL := Hid.mk (below_up LL.out (Nat.le_refl _) d1)
                clear d1 t1 t2 a0 q0 a1 q1 hcell
                go_wp2_with fail
                rw [next_w hkn hrr.out.2.2.2.1]
                exact ⟨⟨k + 1, f1, rfl, rfl, hkn, g1, LL⟩, next_m hkn⟩
              · have hkn1 : ¬ (k : Int) < (rr.slots.length : Int) := fun q => hkn (Int.ofNat_lt.1 q)
                have ek : k = rr.slots.length := Nat.le_antisymm hk (Nat.le_of_not_lt hkn)
                subst ek
                replace hF := hF.out
                rw [List.drop_length, slotsB, List.nil_append, ← hR2.out] at hF
                replace hF := Hid.mk hF
                have x3 : ws.cell? ⟨kx, 3, none⟩ = some (.slice sa rr.slots.length sc) := (At.underB BX.out LL.out BX.out.1).2.1 3
                replace L := Hid.mk (below_up L.out (Nat.le_refl _) LL.out)
                go_wp2_with fail
                refine ⟨⟨i + 1, B, rfl, ?_, hn, hF, L⟩, ?_⟩
                · first | rfl | rw [next_w hn hl1.out] | go_num
                · first | exact next_m hn | (rw [next_w hn hl1.out]; exact next_m hn)
          · have hz1 : ((rr.slots.length : Int) == 0) = false := by rw [beq_eq_false_iff_ne]; omega
            replace e2 := e2.out
            rw [dataB_none hz] at e2
            replace hz := Hid.mk hz
            replace e2 := Hid.mk e2
            clear j4
            have x3 : V2.cell? ⟨kx, 3, none⟩ = some (.slice sa rr.slots.length sc) := BX.out.2.1 3
            go_upto_region 15 with fail
            clear x3
            go_loopw [5, 8] (fun y x ws => ∃ (k : Nat) (B : List UInt8), y = .string (str B) ∧ x = .int .i64 k ∧ k ≤ rr.slots.length ∧ Hid (B ++ (slotsB (rr.slots.drop k) ++ R2) = T) ∧ Hid (Below V2.heap.size V2 ws)) (fun _ x _ => rr.slots.length - (intOf x).toNat)
            case atStart => exact ⟨0, c2, rfl, rfl, Nat.zero_le _, Hid.mk (by rw [List.drop_zero]; exact e2.out), Hid.mk (Below.refl _ _)⟩
            case round =>
              clear e2
              obtain ⟨k, B, rfl, rfl, hk, hF, LL⟩ := hrel
              generalize wr = ws at *
              by_cases hkn : k < rr.slots.length
              · obtain ⟨sb, so, hsa, hs1, _, hcell⟩ := kf.out k hkn
                subst hsa
                have hsr := hrr.out.2.2.2.2 _ (List.getElem_mem hkn)
                replace hF := hF.out
                rw [slotsB_at hkn, List.append_assoc, slotB_cat] at hF
                generalize rr.slots[k] = sl at hcell hF hsr
                obtain ⟨f0, g0, a0, q0⟩ := step_cat hF hT.out
                obtain ⟨f1, g1, a1, q1⟩ := step_cat g0 hT.out
                clear hF g0
                replace g1 := Hid.mk g1
                have t1 := Hid.mk (fun W => show Calls Tryz.prog 23 #[.agg (PTyp.vals sl.t).toArray] W _ from refTyped_any sl.t W hsr.1)
                have t2 := Hid.mk (fun W => low_any sl.c 8 W hsr.2 (by decide) (by decide))
                generalize typB sl.t = b1 at *
                generalize leB 8 sl.c = b2 at *
                replace hcell := Hid.mk hcell
                have hkn1 : (k : Int) < (rr.slots.length : Int) := Int.ofNat_lt.2 hkn
                have KS : Hid (∀ W, Below ws.heap.size ws W → W.cell? ⟨kx, 3, none⟩ = some (.slice (some ⟨sb, so, none⟩) rr.slots.length sc) ∧ W.cell? ⟨sb, so + k * 8 + 7, none⟩ = some (.int .u64 sl.c) ∧ W.rangeAt sb (so + k * 8) (PTyp.vals sl.t)) := Hid.mk (fun W q => by have hLW := below_up (below_up L.out (Nat.le_refl _) LL.out) (Nat.le_refl _) q; have A := At.underB BX.out (below_up LL.out (Nat.le_refl _) q) BX.out.1; have C := slot_cells (fun j hj => ((hLW.mono (Nat.le_of_lt hB.out)).cell (p := ⟨sb, so + k * 8 + j, none⟩) hs1).trans (hcell.out j hj)); exact ⟨A.2.1 3, C.2, C.1⟩)
                have x3 : ws.cell? ⟨kx, 3, none⟩ = some (.slice (some ⟨sb, so, none⟩) rr.slots.length sc) := (At.underB BX.out LL.out BX.out.1).2.1 3
                go_upto_region 17 with fail
                clear x3
                have d1 : Below ws.heap.size ws ws.drew := ((Gr.refl _).drew).below
                refine wp_region_held_drew (S := (fun W => W.cell? ⟨kx, 3, none⟩ = some (.slice (some ⟨sb, so, none⟩) rr.slots.length sc) ∧ W.cell? ⟨sb, so + k * 8 + 7, none⟩ = some (.int .u64 sl.c) ∧ W.rangeAt sb (so + k * 8) (PTyp.vals sl.t))) (by kernel_rfl) (KS.out _ d1) (fun hHeld => ?_)
                refine wpAnyH_take (i := 0) (oi := { dst := some 92, op := Op.move (Operand.tmp 5), type := 9, pos := "bytes.go:77", after := #[], guard := none }) (v := ?_) rfl (by kernel_rfl) (by kernel_rfl) (by kernel_rfl) (fun _ _ _ h => h) (Or.inl ⟨by rfl, ?_⟩) (by assumption) ?_
                rotate_left
                · intro w hSw; (try dsimp only at hSw); go_simp; first | done | with_reducible rfl
                try simp only [Act.put, List.setIfInBounds_toArray, List.set_cons_zero, List.set_cons_succ]
                refine wpAnyH_take (i := 1) (oi := { dst := some 93, op := Op.fieldAddr 47 (Operand.tmp 7) 3, type := 0, pos := "bytes.go:77", after := #[], guard := none }) (v := ?_) rfl (by kernel_rfl) (by kernel_rfl) (by kernel_rfl) (fun _ _ _ h => h) (Or.inl ⟨by rfl, ?_⟩) (by assumption) ?_
                rotate_left
                · intro w hSw; (try dsimp only at hSw); go_simp; first | done | with_reducible rfl
                try simp only [Act.put, List.setIfInBounds_toArray, List.set_cons_zero, List.set_cons_succ]
                refine wpAnyH_take (i := 2) (oi := { dst := some 94, op := Op.load 45 (Operand.tmp 93), type := 45, pos := "bytes.go:77", after := #[{ on := 1, ground := Ground.data }], guard := none }) (v := ?_) rfl (by kernel_rfl) (by kernel_rfl) (by kernel_rfl) (fun _ _ _ h => h) (Or.inl ⟨by rfl, ?_⟩) (by assumption) ?_
                rotate_left
                · intro w hSw; (try dsimp only at hSw); go_simp; first | done | with_reducible rfl
                try simp only [Act.put, List.setIfInBounds_toArray, List.set_cons_zero, List.set_cons_succ]
                refine wpAnyH_take (i := 3) (oi := { dst := some 95, op := Op.move (Operand.tmp 8), type := 3, pos := "bytes.go:77", after := #[], guard := none }) (v := ?_) rfl (by kernel_rfl) (by kernel_rfl) (by kernel_rfl) (fun _ _ _ h => h) (Or.inl ⟨by rfl, ?_⟩) (by assumption) ?_
                rotate_left
                · intro w hSw; (try dsimp only at hSw); go_simp; first | done | with_reducible rfl
                try simp only [Act.put, List.setIfInBounds_toArray, List.set_cons_zero, List.set_cons_succ]
                refine wpAnyH_take (i := 4) (oi := { dst := some 96, op := Op.indexAddr 45 (Operand.tmp 94) (Operand.tmp 95), type := 0, pos := "bytes.go:77", after := #[{ on := 2, ground := Ground.data }, { on := 3, ground := Ground.data }], guard := none }) (v := ?_) rfl (by kernel_rfl) (by kernel_rfl) (by kernel_rfl) (fun _ _ _ h => h) (Or.inl ⟨by rfl, ?_⟩) (by assumption) ?_
                rotate_left
                · intro w hSw; (try dsimp only at hSw); go_simp; first | done | with_reducible rfl
                try simp only [Act.put, List.setIfInBounds_toArray, List.set_cons_zero, List.set_cons_succ]
                refine wpAnyH_take (i := 5) (oi := { dst := some 97, op := Op.fieldAddr 68 (Operand.tmp 96) 0, type := 0, pos := "bytes.go:77", after := #[{ on := 4, ground := Ground.data }], guard := none }) (v := ?_) rfl (by kernel_rfl) (by kernel_rfl) (by kernel_rfl) (fun _ _ _ h => h) (Or.inl ⟨by rfl, ?_⟩) (by assumption) ?_
                rotate_left
                · intro w hSw; (try dsimp only at hSw); go_simp; first | done | with_reducible rfl
                try simp only [Act.put, List.setIfInBounds_toArray, List.set_cons_zero, List.set_cons_succ]
                refine wpAnyH_take (i := 6) (oi := { dst := some 98, op := Op.load 66 (Operand.tmp 97), type := 66, pos := "bytes.go:77", after := #[{ on := 5, ground := Ground.data }], guard := none }) (v := _) rfl (by kernel_rfl) (by kernel_rfl) (by kernel_rfl) (fun _ _ _ h => h) (yieldsIf_load_mid (by rfl) _ _ rfl _ _ rfl _ _ (fun _ h => h.2.2) Tryz.underlying66 rfl (by kernel_rfl)) (by assumption) ?_
                try simp only [Act.put, List.setIfInBounds_toArray, List.set_cons_zero, List.set_cons_succ]
                refine wpAnyH_take (i := 9) (oi := { dst := some 101, op := Op.fieldAddr 47 (Operand.tmp 7) 3, type := 0, pos := "bytes.go:77", after := #[], guard := none }) (v := ?_) rfl (by kernel_rfl) (by kernel_rfl) (by kernel_rfl) (fun _ _ _ h => h) (Or.inl ⟨by rfl, ?_⟩) (by assumption) ?_
                rotate_left
                · intro w hSw; (try dsimp only at hSw); go_simp; first | done | with_reducible rfl
                try simp only [Act.put, List.setIfInBounds_toArray, List.set_cons_zero, List.set_cons_succ]
                refine wpAnyH_take (i := 10) (oi := { dst := some 102, op := Op.load 45 (Operand.tmp 101), type := 45, pos := "bytes.go:77", after := #[{ on := 9, ground := Ground.data }], guard := none }) (v := ?_) rfl (by kernel_rfl) (by kernel_rfl) (by kernel_rfl) (fun _ _ _ h => h) (Or.inl ⟨by rfl, ?_⟩) (by assumption) ?_
                rotate_left
                · intro w hSw; (try dsimp only at hSw); go_simp; first | done | with_reducible rfl
                try simp only [Act.put, List.setIfInBounds_toArray, List.set_cons_zero, List.set_cons_succ]
                refine wpAnyH_take (i := 11) (oi := { dst := some 103, op := Op.move (Operand.tmp 8), type := 3, pos := "bytes.go:77", after := #[], guard := none }) (v := ?_) rfl (by kernel_rfl) (by kernel_rfl) (by kernel_rfl) (fun _ _ _ h => h) (Or.inl ⟨by rfl, ?_⟩) (by assumption) ?_
                rotate_left
                · intro w hSw; (try dsimp only at hSw); go_simp; first | done | with_reducible rfl
                try simp only [Act.put, List.setIfInBounds_toArray, List.set_cons_zero, List.set_cons_succ]
                refine wpAnyH_take (i := 12) (oi := { dst := some 104, op := Op.indexAddr 45 (Operand.tmp 102) (Operand.tmp 103), type := 0, pos := "bytes.go:77", after := #[{ on := 10, ground := Ground.data }, { on := 11, ground := Ground.data }], guard := none }) (v := ?_) rfl (by kernel_rfl) (by kernel_rfl) (by kernel_rfl) (fun _ _ _ h => h) (Or.inl ⟨by rfl, ?_⟩) (by assumption) ?_
                rotate_left
                · intro w hSw; (try dsimp only at hSw); go_simp; first | done | with_reducible rfl
                try simp only [Act.put, List.setIfInBounds_toArray, List.set_cons_zero, List.set_cons_succ]
                refine wpAnyH_take (i := 13) (oi := { dst := some 105, op := Op.fieldAddr 68 (Operand.tmp 104) 1, type := 0, pos := "bytes.go:77", after := #[{ on := 12, ground := Ground.data }], guard := none }) (v := ?_) rfl (by kernel_rfl) (by kernel_rfl) (by kernel_rfl) (fun _ _ _ h => h) (Or.inl ⟨by rfl, ?_⟩) (by assumption) ?_
                rotate_left
                · intro w hSw; (try dsimp only at hSw); go_simp; first | done | with_reducible rfl
                try simp only [Act.put, List.setIfInBounds_toArray, List.set_cons_zero, List.set_cons_succ]
                refine wpAnyH_take (i := 14) (oi := { dst := some 106, op := Op.load 38 (Operand.tmp 105), type := 38, pos := "bytes.go:77", after := #[{ on := 13, ground := Ground.data }], guard := none }) (v := ?_) rfl (by kernel_rfl) (by kernel_rfl) (by kernel_rfl) (fun _ _ _ h => h) (Or.inl ⟨by rfl, ?_⟩) (by assumption) ?_
                rotate_left
                · intro w hSw; (try dsimp only at hSw); go_simp; first | done | with_reducible rfl
                try simp only [Act.put, List.setIfInBounds_toArray, List.set_cons_zero, List.set_cons_succ]
                refine wpAnyH_ready (rs := [7]) (by kernel_rfl) (by simp) ?_
                refine AllReadyH.cons (o := { dst := some 99, op := Op.call { callee := Callee.value (Operand.func 23), args := #[Operand.tmp 98], argTypes := #[66] }, type := 9, pos := "bytes.go:77", after := #[{ on := 6, ground := Ground.data }], guard := none }) rfl (fun K hK => ?_) AllReadyH.nil
                go_simp
                go_wp2_with (go_at_call 23; refine (t1.out _).mono ?_; rintro x wq ⟨rfl, q9⟩; replace d1 := Below.trans d1 (q9.mono d1.size); clear q9)
                refine hK.out _ _ (KS.out _ d1) (fun hHeld => ?_)
                clear hK K
                try simp only [Act.put, List.setIfInBounds_toArray, List.set_cons_zero, List.set_cons_succ]
                refine wpAnyH_take (i := 8) (oi := { dst := some 100, op := Op.binOp BinOp.add 9 (Operand.tmp 92) (Operand.tmp 99) 9, type := 9, pos := "bytes.go:77", after := #[{ on := 0, ground := Ground.data }, { on := 7, ground := Ground.data }], guard := none }) (v := ?_) rfl (by kernel_rfl) (by kernel_rfl) (by kernel_rfl) (fun _ _ _ h => h) (Or.inl ⟨by rfl, ?_⟩) (by assumption) ?_
                rotate_left
                · intro w hSw; (try dsimp only at hSw); go_simp; first | done | with_reducible rfl
                try simp only [Act.put, List.setIfInBounds_toArray, List.set_cons_zero, List.set_cons_succ]
                refine wpAnyH_ready (rs := [15]) (by kernel_rfl) (by simp) ?_
                refine AllReadyH.cons (o := { dst := some 107, op := Op.call { callee := Callee.value (Operand.func 22), args := #[Operand.tmp 106, Operand.const (Value.int IntKind.i64 8)], argTypes := #[38, 3] }, type := 9, pos := "bytes.go:77", after := #[{ on := 14, ground := Ground.data }, { on := 7, ground := Ground.chain }], guard := none }) rfl (fun K hK => ?_) AllReadyH.nil
                go_simp
                go_wp2_with (go_at_call 22; refine (t2.out _).mono ?_; rintro x wq ⟨rfl, q9⟩; replace d1 := Below.trans d1 (q9.mono d1.size); clear q9)
                refine hK.out _ _ (KS.out _ d1) (fun hHeld => ?_)
                clear hK K
                try simp only [Act.put, List.setIfInBounds_toArray, List.set_cons_zero, List.set_cons_succ]
                refine wpAnyH_take (i := 16) (oi := { dst := some 108, op := Op.binOp BinOp.add 9 (Operand.tmp 100) (Operand.tmp 107) 9, type := 9, pos := "bytes.go:77", after := #[{ on := 8, ground := Ground.data }, { on := 15, ground := Ground.data }], guard := none }) (v := ?_) rfl (by kernel_rfl) (by kernel_rfl) (by kernel_rfl) (fun _ _ _ h => h) (Or.inl ⟨by rfl, ?_⟩) (by assumption) ?_
                rotate_left
                · intro w hSw; (try dsimp only at hSw); go_simp; first | done | with_reducible rfl
                try simp only [Act.put, List.setIfInBounds_toArray, List.set_cons_zero, List.set_cons_succ]
                refine wpAnyH_take (i := 17) (oi := { dst := some 5, op := Op.assign (Operand.tmp 108), type := 9, pos := "bytes.go:77", after := #[{ on := 16, ground := Ground.data }, { on := 15, ground := Ground.chain }, { on := 0, ground := Ground.phase }, { on := 1, ground := Ground.phase }, { on := 2, ground := Ground.phase }, { on := 3, ground := Ground.phase }, { on := 4, ground := Ground.phase }, { on := 5, ground := Ground.phase }, { on := 6, ground := Ground.phase }, { on := 7, ground := Ground.phase }, { on := 8, ground := Ground.phase }, { on := 9, ground := Ground.phase }, { on := 10, ground := Ground.phase }, { on := 11, ground := Ground.phase }, { on := 12, ground := Ground.phase }, { on := 13, ground := Ground.phase }, { on := 14, ground := Ground.phase }, { on := 15, ground := Ground.phase }, { on := 16, ground := Ground.phase }], guard := none }) (v := ?_) rfl (by kernel_rfl) (by kernel_rfl) (by kernel_rfl) (fun _ _ _ h => h) (Or.inl ⟨by rfl, ?_⟩) (by assumption) ?_
                rotate_left
                · intro w hSw; (try dsimp only at hSw); go_simp; first | done | with_reducible rfl
                try simp only [Act.put, List.setIfInBounds_toArray, List.set_cons_zero, List.set_cons_succ]
                refine wpAnyH_done (by kernel_rfl) ?_ _
                clear hHeld KS
                replace LL := Hid.mk (below_up LL.out (Nat.le_refl _) d1)
                clear d1 t1 t2 a0 q0 a1 q1 hcell
                go_wp2_with fail
                rw [next_w hkn hrr.out.2.2.2.1]
                exact ⟨⟨k + 1, f1, rfl, rfl, hkn, g1, LL⟩, next_m hkn⟩
              · have hkn1 : ¬ (k : Int) < (rr.slots.length : Int) := fun q => hkn (Int.ofNat_lt.1 q)
                have ek : k = rr.slots.length := Nat.le_antisymm hk (Nat.le_of_not_lt hkn)
                subst ek
                replace hF := hF.out
                rw [List.drop_length, slotsB, List.nil_append, ← hR2.out] at hF
                replace hF := Hid.mk hF
                have x3 : ws.cell? ⟨kx, 3, none⟩ = some (.slice sa rr.slots.length sc) := (At.underB BX.out LL.out BX.out.1).2.1 3
                replace L := Hid.mk (below_up L.out (Nat.le_refl _) LL.out)
                go_wp2_with fail
                refine ⟨⟨i + 1, B, rfl, ?_, hn, hF, L⟩, ?_⟩
                · first | rfl | rw [next_w hn hl1.out] | go_num
                · first | exact next_m hn | (rw [next_w hn hl1.out]; exact next_m hn)
        · have hi1 : ¬ (i : Int) < (m.regs.length : Int) := fun q => hn (Int.ofNat_lt.1 q)
          have ei : i = m.regs.length := Nat.le_antisymm hi (Nat.le_of_not_lt hn)
          subst ei
          have m0 : wr.cell? ⟨w.heap.size, 0, none⟩ = some (.slice ra m.regs.length rc) := (At.underB BM.out L.out hB.out).2.1 0
          replace hE := hE.out
          rw [List.drop_length, regsB, List.nil_append, ← hR1.out] at hE
          replace hE := Hid.mk hE
          go_upto_region 19 with fail
          clear m0 hR1
          generalize hR1 : gatesB m.gates ++ [] = R1 at hE
          replace hR1 := Hid.mk hR1
          have L5 := L
          clear L
          go_loopw [5, 9] (fun y x wr => ∃ (i : Nat) (B : List UInt8), y = .string (str B) ∧ x = .int .i64 i ∧ i ≤ m.comps.length ∧ Hid (B ++ (compsB (m.comps.drop i) ++ R1) = T) ∧ Hid (Below W0.heap.size W0 wr)) (fun _ x _ => m.comps.length - (intOf x).toNat)
          case atStart => exact ⟨0, B, rfl, rfl, Nat.zero_le _, Hid.mk (by rw [List.drop_zero]; exact hE.out), L5⟩
          case round =>
            clear hE L5
            obtain ⟨i, B, rfl, rfl, hi, hE, L⟩ := hrel
            have m1 : wr.cell? ⟨w.heap.size, 1, none⟩ = some (.slice ca m.comps.length cc) := (At.underB BM.out L.out hB.out).2.1 1
            by_cases hn : i < m.comps.length
            · have hi1 : (i : Int) < (m.comps.length : Int) := Int.ofNat_lt.2 hn
              clear m1
              obtain ⟨rb, off, ra', rc', ka, kc', hca, hb1, _, k0, k1, kf, kl⟩ := hm.out.comps i hn
              subst hca
              have hrr := hr2.out _ (List.getElem_mem hn)
              replace hE := hE.out
              rw [compsB_at hn, List.append_assoc, compB_cat] at hE
              generalize hR3 : compsB (m.comps.drop (i + 1)) ++ R1 = R3 at hE
              replace hR3 := Hid.mk hR3
              generalize m.comps[i] = rr at k0 k1 kf kl hrr hE
              have v3 := u64_len hrr.1
              have v4 := u64_len (small_G hrr.2.1)
              have j1 := Hid.mk (fun W => small_any (rr.roots.length : Int) 1 W (by decide) (by decide))
              have j2 := Hid.mk (fun W => small_any (rr.code.length : Int) 2 W (by decide) (by decide))
              have j3 := Hid.mk (fun W h => refEncode_any rr.code kc' ka W h hrr.2.2.1 hrr.2.1)
              rw [v3] at j1
              rw [v4] at j2
              clear v3 v4
              obtain ⟨c0, e0, a0, q0⟩ := step_cat hE hT.out
              clear hE
              generalize leB 1 (rr.roots.length : Int) = b1 at *
              generalize leB 2 (rr.code.length : Int) = b2 at *
              generalize (encF rr.code 0 []).1 = b3 at *
              generalize (encF rr.code 0 []).2.1 = n4 at *
              generalize (encF rr.code 0 []).2.2 = n5 at *
              generalize hR2 : b2 ++ (b3 ++ R3) = R2 at e0
              replace hR2 := Hid.mk hR2
              replace e0 := Hid.mk e0
              replace hrr := Hid.mk hrr
              replace kf := Hid.mk kf
              replace kl := Hid.mk kl
              have LW := L.out.mono (Nat.le_of_lt hB.out)
              have d0 := (LW.cell (p := ⟨rb, off + i * 2, none⟩) hb1).trans k0
              have d1 := (LW.cell (p := ⟨rb, off + i * 2 + 1, none⟩) hb1).trans k1
              have m1 : wr.cell? ⟨w.heap.size, 1, none⟩ = some (.slice (some ⟨rb, off, none⟩) m.comps.length cc) := (At.underB BM.out L.out hB.out).2.1 1
              clear k0 k1 LW
              go_upto_region 22 with fail
              clear d0 d1 m1
              refine wp_world (fun W => At W wr.heap.size (List.toArray [Value.slice ra' rr.roots.length rc', .slice ka rr.code.length kc']) ∧ Below W0.heap.size W0 W) ⟨At.new wr _ _, below_up L.out (Nat.le_refl _) ((Gr.refl wr).alloc _).below⟩ ?_
              rintro V1 ⟨BX, L1⟩
              clear L
              have L := Hid.mk L1
              clear L1
              replace BX := Hid.mk BX
              generalize wr.heap.size = kx at *
              have x0 : V1.cell? ⟨kx, 0, none⟩ = some (.slice ra' rr.roots.length rc') := BX.out.2.1 0
              go_wp2_with fail
              refine (j1.out _).mono ?_
              rintro x V2 ⟨rfl, d1⟩
              clear x0 j1
              replace BX := Hid.mk (At.underB BX.out d1 BX.out.1)
              replace L := Hid.mk (below_up L.out (Nat.le_refl _) d1)
              clear d1
              go_upto_region 24 with fail
              clear a0 q0
              go_loopw [5, 11] (fun y x ws => ∃ (k : Nat) (B : List UInt8), y = .string (str B) ∧ x = .int .i64 k ∧ k ≤ rr.roots.length ∧ Hid (B ++ (rootsB (rr.roots.drop k) ++ R2) = T) ∧ Hid (Below V2.heap.size V2 ws)) (fun _ x _ => rr.roots.length - (intOf x).toNat)
              case atStart => exact ⟨0, c0, rfl, rfl, Nat.zero_le _, Hid.mk (by rw [List.drop_zero]; exact e0.out), Hid.mk (Below.refl _ _)⟩
              case round =>
                clear e0
                obtain ⟨k, B, rfl, rfl, hk, hF, LL⟩ := hrel
                generalize wr = ws at *
                by_cases hkn : k < rr.roots.length
                · obtain ⟨sb, so, hsa, hs1, _, hcell⟩ := kf.out k hkn
                  subst hsa
                  have hsr := hrr.out.2.2.2 _ (List.getElem_mem hkn)
                  replace hF := hF.out
                  rw [rootsB_at hkn, List.append_assoc, rootB_cat] at hF
                  generalize rr.roots[k] = sl at hcell hF hsr
                  obtain ⟨f0, g0, a0, q0⟩ := step_cat hF hT.out
                  obtain ⟨f1, g1, a1, q1⟩ := step_cat g0 hT.out
                  clear hF g0
                  replace g1 := Hid.mk g1
                  have t1 := Hid.mk (fun W => small_any sl.r 1 W (by decide) (by decide))
                  have t2 := Hid.mk (fun W => show Calls Tryz.prog 24 #[.agg (List.toArray [Value.int .u64 sl.b, .int .u64 sl.e, .int .u64 sl.c, .int .u8 sl.p, .int .i64 sl.s])] W _ from refCapped_any sl.b sl.e sl.c sl.p sl.s W hsr.2.1 hsr.2.2.1 hsr.2.2.2.1 hsr.2.2.2.2.1)
                  generalize leB 1 (Go.Proofs.YtmmakknhaacplaaGreatDoor.u64 sl.r) = b1 at *
                  generalize putB 8 [sl.b, sl.e, sl.c] ++ putB 1 [sl.p, Go.Proofs.YtmmakknhaacplaaGreatDoor.u64 sl.s] = b2 at *
                  replace hcell := Hid.mk hcell
                  have hkn1 : (k : Int) < (rr.roots.length : Int) := Int.ofNat_lt.2 hkn
                  have KS : Hid (∀ W, Below ws.heap.size ws W → W.cell? ⟨kx, 0, none⟩ = some (.slice (some ⟨sb, so, none⟩) rr.roots.length rc') ∧ W.cell? ⟨sb, so + k * 6, none⟩ = some (.int .i64 sl.r) ∧ W.rangeAt sb (so + k * 6 + 1) [Value.int .u64 sl.b, .int .u64 sl.e, .int .u64 sl.c, .int .u8 sl.p, .int .i64 sl.s]) := Hid.mk (fun W q => by have hLW := below_up (below_up L.out (Nat.le_refl _) LL.out) (Nat.le_refl _) q; have A := At.underB BX.out (below_up LL.out (Nat.le_refl _) q) BX.out.1; have C := root_cells (fun j hj => ((hLW.mono (Nat.le_of_lt hB.out)).cell (p := ⟨sb, so + k * 6 + j, none⟩) hs1).trans (hcell.out j hj)); exact ⟨A.2.1 0, C.1, C.2⟩)
                  have x3 : ws.cell? ⟨kx, 0, none⟩ = some (.slice (some ⟨sb, so, none⟩) rr.roots.length rc') := (At.underB BX.out LL.out BX.out.1).2.1 0
                  go_upto_region 26 with fail
                  clear x3
                  have d1 : Below ws.heap.size ws ws.drew := ((Gr.refl _).drew).below
                  refine wp_region_held_drew (S := (fun W => W.cell? ⟨kx, 0, none⟩ = some (.slice (some ⟨sb, so, none⟩) rr.roots.length rc') ∧ W.cell? ⟨sb, so + k * 6, none⟩ = some (.int .i64 sl.r) ∧ W.rangeAt sb (so + k * 6 + 1) [Value.int .u64 sl.b, .int .u64 sl.e, .int .u64 sl.c, .int .u8 sl.p, .int .i64 sl.s])) (by kernel_rfl) (KS.out _ d1) (fun hHeld => ?_)
                  refine wpAnyH_take (i := 0) (oi := { dst := some 134, op := Op.move (Operand.tmp 5), type := 9, pos := "bytes.go:84", after := #[], guard := none }) (v := ?_) rfl (by kernel_rfl) (by kernel_rfl) (by kernel_rfl) (fun _ _ _ h => h) (Or.inl ⟨by rfl, ?_⟩) (by assumption) ?_
                  rotate_left
                  · intro w hSw; (try dsimp only at hSw); go_simp; first | done | with_reducible rfl
                  try simp only [Act.put, List.setIfInBounds_toArray, List.set_cons_zero, List.set_cons_succ]
                  refine wpAnyH_take (i := 1) (oi := { dst := some 135, op := Op.fieldAddr 52 (Operand.tmp 10) 0, type := 0, pos := "bytes.go:84", after := #[], guard := none }) (v := ?_) rfl (by kernel_rfl) (by kernel_rfl) (by kernel_rfl) (fun _ _ _ h => h) (Or.inl ⟨by rfl, ?_⟩) (by assumption) ?_
                  rotate_left
                  · intro w hSw; (try dsimp only at hSw); go_simp; first | done | with_reducible rfl
                  try simp only [Act.put, List.setIfInBounds_toArray, List.set_cons_zero, List.set_cons_succ]
                  refine wpAnyH_take (i := 2) (oi := { dst := some 136, op := Op.load 49 (Operand.tmp 135), type := 49, pos := "bytes.go:84", after := #[{ on := 1, ground := Ground.data }], guard := none }) (v := ?_) rfl (by kernel_rfl) (by kernel_rfl) (by kernel_rfl) (fun _ _ _ h => h) (Or.inl ⟨by rfl, ?_⟩) (by assumption) ?_
                  rotate_left
                  · intro w hSw; (try dsimp only at hSw); go_simp; first | done | with_reducible rfl
                  try simp only [Act.put, List.setIfInBounds_toArray, List.set_cons_zero, List.set_cons_succ]
                  refine wpAnyH_take (i := 3) (oi := { dst := some 137, op := Op.move (Operand.tmp 11), type := 3, pos := "bytes.go:84", after := #[], guard := none }) (v := ?_) rfl (by kernel_rfl) (by kernel_rfl) (by kernel_rfl) (fun _ _ _ h => h) (Or.inl ⟨by rfl, ?_⟩) (by assumption) ?_
                  rotate_left
                  · intro w hSw; (try dsimp only at hSw); go_simp; first | done | with_reducible rfl
                  try simp only [Act.put, List.setIfInBounds_toArray, List.set_cons_zero, List.set_cons_succ]
                  refine wpAnyH_take (i := 4) (oi := { dst := some 138, op := Op.indexAddr 49 (Operand.tmp 136) (Operand.tmp 137), type := 0, pos := "bytes.go:84", after := #[{ on := 2, ground := Ground.data }, { on := 3, ground := Ground.data }], guard := none }) (v := ?_) rfl (by kernel_rfl) (by kernel_rfl) (by kernel_rfl) (fun _ _ _ h => h) (Or.inl ⟨by rfl, ?_⟩) (by assumption) ?_
                  rotate_left
                  · intro w hSw; (try dsimp only at hSw); go_simp; first | done | with_reducible rfl
                  try simp only [Act.put, List.setIfInBounds_toArray, List.set_cons_zero, List.set_cons_succ]
                  refine wpAnyH_take (i := 5) (oi := { dst := some 139, op := Op.fieldAddr 70 (Operand.tmp 138) 0, type := 0, pos := "bytes.go:84", after := #[{ on := 4, ground := Ground.data }], guard := none }) (v := ?_) rfl (by kernel_rfl) (by kernel_rfl) (by kernel_rfl) (fun _ _ _ h => h) (Or.inl ⟨by rfl, ?_⟩) (by assumption) ?_
                  rotate_left
                  · intro w hSw; (try dsimp only at hSw); go_simp; first | done | with_reducible rfl
                  try simp only [Act.put, List.setIfInBounds_toArray, List.set_cons_zero, List.set_cons_succ]
                  refine wpAnyH_take (i := 6) (oi := { dst := some 140, op := Op.load 3 (Operand.tmp 139), type := 3, pos := "bytes.go:84", after := #[{ on := 5, ground := Ground.data }], guard := none }) (v := ?_) rfl (by kernel_rfl) (by kernel_rfl) (by kernel_rfl) (fun _ _ _ h => h) (Or.inl ⟨by rfl, ?_⟩) (by assumption) ?_
                  rotate_left
                  · intro w hSw; (try dsimp only at hSw); go_simp; first | done | with_reducible rfl
                  try simp only [Act.put, List.setIfInBounds_toArray, List.set_cons_zero, List.set_cons_succ]
                  refine wpAnyH_take (i := 9) (oi := { dst := some 143, op := Op.fieldAddr 52 (Operand.tmp 10) 0, type := 0, pos := "bytes.go:84", after := #[], guard := none }) (v := ?_) rfl (by kernel_rfl) (by kernel_rfl) (by kernel_rfl) (fun _ _ _ h => h) (Or.inl ⟨by rfl, ?_⟩) (by assumption) ?_
                  rotate_left
                  · intro w hSw; (try dsimp only at hSw); go_simp; first | done | with_reducible rfl
                  try simp only [Act.put, List.setIfInBounds_toArray, List.set_cons_zero, List.set_cons_succ]
                  refine wpAnyH_take (i := 10) (oi := { dst := some 144, op := Op.load 49 (Operand.tmp 143), type := 49, pos := "bytes.go:84", after := #[{ on := 9, ground := Ground.data }], guard := none }) (v := ?_) rfl (by kernel_rfl) (by kernel_rfl) (by kernel_rfl) (fun _ _ _ h => h) (Or.inl ⟨by rfl, ?_⟩) (by assumption) ?_
                  rotate_left
                  · intro w hSw; (try dsimp only at hSw); go_simp; first | done | with_reducible rfl
                  try simp only [Act.put, List.setIfInBounds_toArray, List.set_cons_zero, List.set_cons_succ]
                  refine wpAnyH_take (i := 11) (oi := { dst := some 145, op := Op.move (Operand.tmp 11), type := 3, pos := "bytes.go:84", after := #[], guard := none }) (v := ?_) rfl (by kernel_rfl) (by kernel_rfl) (by kernel_rfl) (fun _ _ _ h => h) (Or.inl ⟨by rfl, ?_⟩) (by assumption) ?_
                  rotate_left
                  · intro w hSw; (try dsimp only at hSw); go_simp; first | done | with_reducible rfl
                  try simp only [Act.put, List.setIfInBounds_toArray, List.set_cons_zero, List.set_cons_succ]
                  refine wpAnyH_take (i := 12) (oi := { dst := some 146, op := Op.indexAddr 49 (Operand.tmp 144) (Operand.tmp 145), type := 0, pos := "bytes.go:84", after := #[{ on := 10, ground := Ground.data }, { on := 11, ground := Ground.data }], guard := none }) (v := ?_) rfl (by kernel_rfl) (by kernel_rfl) (by kernel_rfl) (fun _ _ _ h => h) (Or.inl ⟨by rfl, ?_⟩) (by assumption) ?_
                  rotate_left
                  · intro w hSw; (try dsimp only at hSw); go_simp; first | done | with_reducible rfl
                  try simp only [Act.put, List.setIfInBounds_toArray, List.set_cons_zero, List.set_cons_succ]
                  refine wpAnyH_take (i := 13) (oi := { dst := some 147, op := Op.fieldAddr 70 (Operand.tmp 146) 1, type := 0, pos := "bytes.go:84", after := #[{ on := 12, ground := Ground.data }], guard := none }) (v := ?_) rfl (by kernel_rfl) (by kernel_rfl) (by kernel_rfl) (fun _ _ _ h => h) (Or.inl ⟨by rfl, ?_⟩) (by assumption) ?_
                  rotate_left
                  · intro w hSw; (try dsimp only at hSw); go_simp; first | done | with_reducible rfl
                  try simp only [Act.put, List.setIfInBounds_toArray, List.set_cons_zero, List.set_cons_succ]
                  refine wpAnyH_take (i := 14) (oi := { dst := some 148, op := Op.load 41 (Operand.tmp 147), type := 41, pos := "bytes.go:84", after := #[{ on := 13, ground := Ground.data }], guard := none }) (v := _) rfl (by kernel_rfl) (by kernel_rfl) (by kernel_rfl) (fun _ _ _ h => h) (yieldsIf_load_mid (by rfl) _ _ rfl _ _ rfl _ _ (fun _ h => h.2.2) Tryz.underlying41 rfl (by kernel_rfl)) (by assumption) ?_
                  try simp only [Act.put, List.setIfInBounds_toArray, List.set_cons_zero, List.set_cons_succ]
                  refine wpAnyH_ready (rs := [7]) (by kernel_rfl) (by simp) ?_
                  refine AllReadyH.cons (o := { dst := some 141, op := Op.call { callee := Callee.value (Operand.func 21), args := #[Operand.tmp 140, Operand.const (Value.int IntKind.i64 1)], argTypes := #[3, 3] }, type := 9, pos := "bytes.go:84", after := #[{ on := 6, ground := Ground.data }], guard := none }) rfl (fun K hK => ?_) AllReadyH.nil
                  go_simp
                  go_wp2_with (go_at_call 21; refine (t1.out _).mono ?_; rintro x wq ⟨rfl, q9⟩; replace d1 := Below.trans d1 (q9.mono d1.size); clear q9)
                  refine hK.out _ _ (KS.out _ d1) (fun hHeld => ?_)
                  clear hK K
                  try simp only [Act.put, List.setIfInBounds_toArray, List.set_cons_zero, List.set_cons_succ]
                  refine wpAnyH_take (i := 8) (oi := { dst := some 142, op := Op.binOp BinOp.add 9 (Operand.tmp 134) (Operand.tmp 141) 9, type := 9, pos := "bytes.go:84", after := #[{ on := 0, ground := Ground.data }, { on := 7, ground := Ground.data }], guard := none }) (v := ?_) rfl (by kernel_rfl) (by kernel_rfl) (by kernel_rfl) (fun _ _ _ h => h) (Or.inl ⟨by rfl, ?_⟩) (by assumption) ?_
                  rotate_left
                  · intro w hSw; (try dsimp only at hSw); go_simp; first | done | with_reducible rfl
                  try simp only [Act.put, List.setIfInBounds_toArray, List.set_cons_zero, List.set_cons_succ]
                  refine wpAnyH_ready (rs := [15]) (by kernel_rfl) (by simp) ?_
                  refine AllReadyH.cons (o := { dst := some 149, op := Op.call { callee := Callee.value (Operand.func 24), args := #[Operand.tmp 148], argTypes := #[41] }, type := 9, pos := "bytes.go:84", after := #[{ on := 14, ground := Ground.data }, { on := 7, ground := Ground.chain }], guard := none }) rfl (fun K hK => ?_) AllReadyH.nil
                  go_simp
                  go_wp2_with (go_at_call 24; refine (t2.out _).mono ?_; rintro x wq ⟨rfl, q9⟩; replace d1 := Below.trans d1 (q9.mono d1.size); clear q9)
                  refine hK.out _ _ (KS.out _ d1) (fun hHeld => ?_)
                  clear hK K
                  try simp only [Act.put, List.setIfInBounds_toArray, List.set_cons_zero, List.set_cons_succ]
                  refine wpAnyH_take (i := 16) (oi := { dst := some 150, op := Op.binOp BinOp.add 9 (Operand.tmp 142) (Operand.tmp 149) 9, type := 9, pos := "bytes.go:84", after := #[{ on := 8, ground := Ground.data }, { on := 15, ground := Ground.data }], guard := none }) (v := ?_) rfl (by kernel_rfl) (by kernel_rfl) (by kernel_rfl) (fun _ _ _ h => h) (Or.inl ⟨by rfl, ?_⟩) (by assumption) ?_
                  rotate_left
                  · intro w hSw; (try dsimp only at hSw); go_simp; first | done | with_reducible rfl
                  try simp only [Act.put, List.setIfInBounds_toArray, List.set_cons_zero, List.set_cons_succ]
                  refine wpAnyH_take (i := 17) (oi := { dst := some 5, op := Op.assign (Operand.tmp 150), type := 9, pos := "bytes.go:84", after := #[{ on := 16, ground := Ground.data }, { on := 15, ground := Ground.chain }, { on := 0, ground := Ground.phase }, { on := 1, ground := Ground.phase }, { on := 2, ground := Ground.phase }, { on := 3, ground := Ground.phase }, { on := 4, ground := Ground.phase }, { on := 5, ground := Ground.phase }, { on := 6, ground := Ground.phase }, { on := 7, ground := Ground.phase }, { on := 8, ground := Ground.phase }, { on := 9, ground := Ground.phase }, { on := 10, ground := Ground.phase }, { on := 11, ground := Ground.phase }, { on := 12, ground := Ground.phase }, { on := 13, ground := Ground.phase }, { on := 14, ground := Ground.phase }, { on := 15, ground := Ground.phase }, { on := 16, ground := Ground.phase }], guard := none }) (v := ?_) rfl (by kernel_rfl) (by kernel_rfl) (by kernel_rfl) (fun _ _ _ h => h) (Or.inl ⟨by rfl, ?_⟩) (by assumption) ?_
                  rotate_left
                  · intro w hSw; (try dsimp only at hSw); go_simp; first | done | with_reducible rfl
                  try simp only [Act.put, List.setIfInBounds_toArray, List.set_cons_zero, List.set_cons_succ]
                  refine wpAnyH_done (by kernel_rfl) ?_ _
                  clear hHeld KS
                  replace LL := Hid.mk (below_up LL.out (Nat.le_refl _) d1)
                  clear d1 t1 t2 a0 q0 a1 q1 hcell
                  go_wp2_with fail
                  rw [next_w hkn hrr.out.1]
                  exact ⟨⟨k + 1, f1, rfl, rfl, hkn, g1, LL⟩, next_m hkn⟩
                · have hkn1 : ¬ (k : Int) < (rr.roots.length : Int) := fun q => hkn (Int.ofNat_lt.1 q)
                  have ek : k = rr.roots.length := Nat.le_antisymm hk (Nat.le_of_not_lt hkn)
                  subst ek
                  replace hF := hF.out
                  rw [List.drop_length, rootsB, List.nil_append, ← hR2.out] at hF
                  obtain ⟨f0, g0, a0, q0⟩ := step_cat hF hT.out
                  obtain ⟨f1, g1, a1, q1⟩ := step_cat g0 hT.out
                  clear hF g0
                  rw [← hR3.out] at g1
                  replace g1 := Hid.mk g1
                  have x0 : ws.cell? ⟨kx, 0, none⟩ = some (.slice ra' rr.roots.length rc') := (At.underB BX.out LL.out BX.out.1).2.1 0
                  have x1 : ws.cell? ⟨kx, 1, none⟩ = some (.slice ka rr.code.length kc') := (At.underB BX.out LL.out BX.out.1).2.1 1
                  replace BX := Hid.mk (At.underB BX.out LL.out BX.out.1)
                  replace L := Hid.mk (below_up L.out (Nat.le_refl _) LL.out)
                  clear LL
                  go_wp2_with fail
                  refine (j3.out ws ((kl.out.below (L.out.mono (Nat.le_of_lt hB.out))).mono (Nat.le_trans (Nat.le_of_lt hB.out) L.out.size))).mono ?_
                  rintro x V3 ⟨rfl, d1⟩
                  clear x0 x1 j3
                  replace BX := Hid.mk (At.underB BX.out d1 BX.out.1)
                  replace L := Hid.mk (below_up L.out (Nat.le_refl _) d1)
                  clear d1
                  have x1 : V3.cell? ⟨kx, 1, none⟩ = some (.slice ka rr.code.length kc') := BX.out.2.1 1
                  go_wp2_with fail
                  refine (j2.out _).mono ?_
                  rintro x V4 ⟨rfl, d1⟩
                  clear x1 j2
                  replace L := Hid.mk (below_up L.out (Nat.le_refl _) d1)
                  clear d1
                  go_wp2_with fail
                  refine ⟨⟨i + 1, f1, rfl, ?_, hn, g1, L⟩, ?_⟩
                  · first | rfl | rw [next_w hn hl2.out] | go_num
                  · first | exact next_m hn | (rw [next_w hn hl2.out]; exact next_m hn)
            · have hi1 : ¬ (i : Int) < (m.comps.length : Int) := fun q => hn (Int.ofNat_lt.1 q)
              have ei : i = m.comps.length := Nat.le_antisymm hi (Nat.le_of_not_lt hn)
              subst ei
              have m1 : wr.cell? ⟨w.heap.size, 1, none⟩ = some (.slice ca m.comps.length cc) := (At.underB BM.out L.out hB.out).2.1 1
              replace hE := hE.out
              rw [List.drop_length, compsB, List.nil_append, ← hR1.out] at hE
              replace hE := Hid.mk hE
              go_upto_region 30 with fail
              clear m1 hR1
              have L6 := L
              clear L
              go_loopw [5, 15] (fun y x wr => ∃ (i : Nat) (B : List UInt8), y = .string (str B) ∧ x = .int .i64 i ∧ i ≤ m.gates.length ∧ Hid (B ++ (gatesB (m.gates.drop i) ++ []) = T) ∧ Hid (Below W0.heap.size W0 wr)) (fun _ x _ => m.gates.length - (intOf x).toNat)
              case atStart => exact ⟨0, B, rfl, rfl, Nat.zero_le _, Hid.mk (by rw [List.drop_zero]; exact hE.out), L6⟩
              case round =>
                clear hE L6
                obtain ⟨i, B, rfl, rfl, hi, hE, L⟩ := hrel
                have m2 : wr.cell? ⟨w.heap.size, 2, none⟩ = some (.slice ga m.gates.length gc) := (At.underB BM.out L.out hB.out).2.1 2
                by_cases hn : i < m.gates.length
                · have hi1 : (i : Int) < (m.gates.length : Int) := Int.ofNat_lt.2 hn
                  clear m2
                  obtain ⟨rb, off, xa, xc, ya, yc, hga, hb1, _, k0, k1, k2, k3, kf, kl⟩ := hm.out.gates i hn
                  subst hga
                  have hrr := hr3.out _ (List.getElem_mem hn)
                  replace hE := hE.out
                  rw [gatesB_at hn, List.append_assoc, gateB_cat] at hE
                  generalize hR3 : gatesB (m.gates.drop (i + 1)) ++ [] = R3 at hE
                  replace hR3 := Hid.mk hR3
                  generalize m.gates[i] = rr at k0 k1 k2 k3 kf kl hrr hE
                  have v3 := u64_len hrr.2.2.1
                  have v4 := u64_len hrr.2.2.2.1
                  have j1 := Hid.mk (fun W => small_any rr.c 1 W (by decide) (by decide))
                  have j2 := Hid.mk (fun W => small_any rr.e 2 W (by decide) (by decide))
                  have j3 := Hid.mk (fun W => small_any (rr.args.length : Int) 1 W (by decide) (by decide))
                  have j4 := Hid.mk (fun W => small_any (rr.res.length : Int) 1 W (by decide) (by decide))
                  rw [v3] at j3
                  rw [v4] at j4
                  clear v3 v4
                  obtain ⟨c0, e0, a0, q0⟩ := step_cat hE hT.out
                  obtain ⟨c1, e1, a1, q1⟩ := step_cat e0 hT.out
                  obtain ⟨c2, e2, a2, q2⟩ := step_cat e1 hT.out
                  clear hE e0 e1
                  generalize leB 1 (Go.Proofs.YtmmakknhaacplaaGreatDoor.u64 rr.c) = b1 at *
                  generalize leB 2 (Go.Proofs.YtmmakknhaacplaaGreatDoor.u64 rr.e) = b2 at *
                  generalize leB 1 (rr.args.length : Int) = b3 at *
                  generalize leB 1 (rr.res.length : Int) = b4 at *
                  generalize hR2 : b4 ++ (typsB rr.res ++ R3) = R2 at e2
                  replace hR2 := Hid.mk hR2
                  replace e2 := Hid.mk e2
                  replace hrr := Hid.mk hrr
                  replace kf := Hid.mk kf
                  replace kl := Hid.mk kl
                  have LW := L.out.mono (Nat.le_of_lt hB.out)
                  have d0 := (LW.cell (p := ⟨rb, off + i * 4, none⟩) hb1).trans k0
                  have d1 := (LW.cell (p := ⟨rb, off + i * 4 + 1, none⟩) hb1).trans k1
                  have d2 := (LW.cell (p := ⟨rb, off + i * 4 + 1 + 1, none⟩) hb1).trans k2
                  have d3 := (LW.cell (p := ⟨rb, off + i * 4 + 1 + 1 + 1, none⟩) hb1).trans k3
                  have m2 : wr.cell? ⟨w.heap.size, 2, none⟩ = some (.slice (some ⟨rb, off, none⟩) m.gates.length gc) := (At.underB BM.out L.out hB.out).2.1 2
                  clear k0 k1 k2 k3 LW
                  go_upto_region 33 with fail
                  clear d0 d1 d2 d3 m2
                  refine wp_world (fun W => At W wr.heap.size (List.toArray [Value.int .i64 rr.c, .int .i64 rr.e, .slice xa rr.args.length xc, .slice ya rr.res.length yc]) ∧ Below W0.heap.size W0 W) ⟨At.new wr _ _, below_up L.out (Nat.le_refl _) ((Gr.refl wr).alloc _).below⟩ ?_
                  rintro V1 ⟨BX, L1⟩
                  clear L
                  have L := Hid.mk L1
                  clear L1
                  replace BX := Hid.mk BX
                  generalize wr.heap.size = kx at *
                  have KS : Hid (∀ W, Below V1.heap.size V1 W → W.cell? ⟨kx, 0, none⟩ = some (.int .i64 rr.c) ∧ W.cell? ⟨kx, 1, none⟩ = some (.int .i64 rr.e) ∧ W.cell? ⟨kx, 2, none⟩ = some (.slice xa rr.args.length xc)) := Hid.mk (fun W q => by have A := At.underB BX.out q BX.out.1; exact ⟨A.2.1 0, A.2.1 1, A.2.1 2⟩)
                  go_upto_region 33 with fail
                  have d1 : Below V1.heap.size V1 V1.drew := ((Gr.refl _).drew).below
                  refine wp_region_held_drew (S := (fun W => W.cell? ⟨kx, 0, none⟩ = some (.int .i64 rr.c) ∧ W.cell? ⟨kx, 1, none⟩ = some (.int .i64 rr.e) ∧ W.cell? ⟨kx, 2, none⟩ = some (.slice xa rr.args.length xc))) (by kernel_rfl) (KS.out _ d1) (fun hHeld => ?_)
                  refine wpAnyH_take (i := 0) (oi := { dst := some 178, op := Op.move (Operand.tmp 5), type := 9, pos := "bytes.go:91", after := #[], guard := none }) (v := ?_) rfl (by kernel_rfl) (by kernel_rfl) (by kernel_rfl) (fun _ _ _ h => h) (Or.inl ⟨by rfl, ?_⟩) (by assumption) ?_
                  rotate_left
                  · intro w hSw; (try dsimp only at hSw); go_simp; first | done | with_reducible rfl
                  try simp only [Act.put, List.setIfInBounds_toArray, List.set_cons_zero, List.set_cons_succ]
                  refine wpAnyH_take (i := 1) (oi := { dst := some 179, op := Op.fieldAddr 55 (Operand.tmp 16) 0, type := 0, pos := "bytes.go:91", after := #[], guard := none }) (v := ?_) rfl (by kernel_rfl) (by kernel_rfl) (by kernel_rfl) (fun _ _ _ h => h) (Or.inl ⟨by rfl, ?_⟩) (by assumption) ?_
                  rotate_left
                  · intro w hSw; (try dsimp only at hSw); go_simp; first | done | with_reducible rfl
                  try simp only [Act.put, List.setIfInBounds_toArray, List.set_cons_zero, List.set_cons_succ]
                  refine wpAnyH_take (i := 2) (oi := { dst := some 180, op := Op.load 3 (Operand.tmp 179), type := 3, pos := "bytes.go:91", after := #[{ on := 1, ground := Ground.data }], guard := none }) (v := ?_) rfl (by kernel_rfl) (by kernel_rfl) (by kernel_rfl) (fun _ _ _ h => h) (Or.inl ⟨by rfl, ?_⟩) (by assumption) ?_
                  rotate_left
                  · intro w hSw; (try dsimp only at hSw); go_simp; first | done | with_reducible rfl
                  try simp only [Act.put, List.setIfInBounds_toArray, List.set_cons_zero, List.set_cons_succ]
                  refine wpAnyH_take (i := 5) (oi := { dst := some 183, op := Op.fieldAddr 55 (Operand.tmp 16) 1, type := 0, pos := "bytes.go:91", after := #[], guard := none }) (v := ?_) rfl (by kernel_rfl) (by kernel_rfl) (by kernel_rfl) (fun _ _ _ h => h) (Or.inl ⟨by rfl, ?_⟩) (by assumption) ?_
                  rotate_left
                  · intro w hSw; (try dsimp only at hSw); go_simp; first | done | with_reducible rfl
                  try simp only [Act.put, List.setIfInBounds_toArray, List.set_cons_zero, List.set_cons_succ]
                  refine wpAnyH_take (i := 6) (oi := { dst := some 184, op := Op.load 3 (Operand.tmp 183), type := 3, pos := "bytes.go:91", after := #[{ on := 5, ground := Ground.data }], guard := none }) (v := ?_) rfl (by kernel_rfl) (by kernel_rfl) (by kernel_rfl) (fun _ _ _ h => h) (Or.inl ⟨by rfl, ?_⟩) (by assumption) ?_
                  rotate_left
                  · intro w hSw; (try dsimp only at hSw); go_simp; first | done | with_reducible rfl
                  try simp only [Act.put, List.setIfInBounds_toArray, List.set_cons_zero, List.set_cons_succ]
                  refine wpAnyH_take (i := 9) (oi := { dst := some 187, op := Op.fieldAddr 55 (Operand.tmp 16) 2, type := 0, pos := "bytes.go:91", after := #[], guard := none }) (v := ?_) rfl (by kernel_rfl) (by kernel_rfl) (by kernel_rfl) (fun _ _ _ h => h) (Or.inl ⟨by rfl, ?_⟩) (by assumption) ?_
                  rotate_left
                  · intro w hSw; (try dsimp only at hSw); go_simp; first | done | with_reducible rfl
                  try simp only [Act.put, List.setIfInBounds_toArray, List.set_cons_zero, List.set_cons_succ]
                  refine wpAnyH_take (i := 10) (oi := { dst := some 188, op := Op.load 53 (Operand.tmp 187), type := 53, pos := "bytes.go:91", after := #[{ on := 9, ground := Ground.data }], guard := none }) (v := ?_) rfl (by kernel_rfl) (by kernel_rfl) (by kernel_rfl) (fun _ _ _ h => h) (Or.inl ⟨by rfl, ?_⟩) (by assumption) ?_
                  rotate_left
                  · intro w hSw; (try dsimp only at hSw); go_simp; first | done | with_reducible rfl
                  try simp only [Act.put, List.setIfInBounds_toArray, List.set_cons_zero, List.set_cons_succ]
                  refine wpAnyH_take (i := 11) (oi := { dst := some 189, op := Op.call { callee := Callee.builtin Builtin.len, args := #[Operand.tmp 188], argTypes := #[53] }, type := 3, pos := "bytes.go:91", after := #[{ on := 10, ground := Ground.data }], guard := none }) (v := ?_) rfl (by kernel_rfl) (by kernel_rfl) (by kernel_rfl) (fun _ _ _ h => h) (Or.inl ⟨by rfl, ?_⟩) (by assumption) ?_
                  rotate_left
                  · intro w hSw; (try dsimp only at hSw); go_simp; first | done | with_reducible rfl
                  try simp only [Act.put, List.setIfInBounds_toArray, List.set_cons_zero, List.set_cons_succ]
                  refine wpAnyH_ready (rs := [3]) (by kernel_rfl) (by simp) ?_
                  refine AllReadyH.cons (o := { dst := some 181, op := Op.call { callee := Callee.value (Operand.func 21), args := #[Operand.tmp 180, Operand.const (Value.int IntKind.i64 1)], argTypes := #[3, 3] }, type := 9, pos := "bytes.go:91", after := #[{ on := 2, ground := Ground.data }], guard := none }) rfl (fun K hK => ?_) AllReadyH.nil
                  go_simp
                  go_wp2_with (go_at_call 21; refine (j1.out _).mono ?_; rintro x wq ⟨rfl, q9⟩; replace d1 := Below.trans d1 (q9.mono d1.size); clear q9)
                  refine hK.out _ _ (KS.out _ d1) (fun hHeld => ?_)
                  clear hK K
                  try simp only [Act.put, List.setIfInBounds_toArray, List.set_cons_zero, List.set_cons_succ]
                  refine wpAnyH_take (i := 4) (oi := { dst := some 182, op := Op.binOp BinOp.add 9 (Operand.tmp 178) (Operand.tmp 181) 9, type := 9, pos := "bytes.go:91", after := #[{ on := 0, ground := Ground.data }, { on := 3, ground := Ground.data }], guard := none }) (v := ?_) rfl (by kernel_rfl) (by kernel_rfl) (by kernel_rfl) (fun _ _ _ h => h) (Or.inl ⟨by rfl, ?_⟩) (by assumption) ?_
                  rotate_left
                  · intro w hSw; (try dsimp only at hSw); go_simp; first | done | with_reducible rfl
                  try simp only [Act.put, List.setIfInBounds_toArray, List.set_cons_zero, List.set_cons_succ]
                  refine wpAnyH_ready (rs := [7]) (by kernel_rfl) (by simp) ?_
                  refine AllReadyH.cons (o := { dst := some 185, op := Op.call { callee := Callee.value (Operand.func 21), args := #[Operand.tmp 184, Operand.const (Value.int IntKind.i64 2)], argTypes := #[3, 3] }, type := 9, pos := "bytes.go:91", after := #[{ on := 6, ground := Ground.data }, { on := 3, ground := Ground.chain }], guard := none }) rfl (fun K hK => ?_) AllReadyH.nil
                  go_simp
                  go_wp2_with (go_at_call 21; refine (j2.out _).mono ?_; rintro x wq ⟨rfl, q9⟩; replace d1 := Below.trans d1 (q9.mono d1.size); clear q9)
                  refine hK.out _ _ (KS.out _ d1) (fun hHeld => ?_)
                  clear hK K
                  try simp only [Act.put, List.setIfInBounds_toArray, List.set_cons_zero, List.set_cons_succ]
                  refine wpAnyH_take (i := 8) (oi := { dst := some 186, op := Op.binOp BinOp.add 9 (Operand.tmp 182) (Operand.tmp 185) 9, type := 9, pos := "bytes.go:91", after := #[{ on := 4, ground := Ground.data }, { on := 7, ground := Ground.data }], guard := none }) (v := ?_) rfl (by kernel_rfl) (by kernel_rfl) (by kernel_rfl) (fun _ _ _ h => h) (Or.inl ⟨by rfl, ?_⟩) (by assumption) ?_
                  rotate_left
                  · intro w hSw; (try dsimp only at hSw); go_simp; first | done | with_reducible rfl
                  try simp only [Act.put, List.setIfInBounds_toArray, List.set_cons_zero, List.set_cons_succ]
                  refine wpAnyH_ready (rs := [12]) (by kernel_rfl) (by simp) ?_
                  refine AllReadyH.cons (o := { dst := some 190, op := Op.call { callee := Callee.value (Operand.func 21), args := #[Operand.tmp 189, Operand.const (Value.int IntKind.i64 1)], argTypes := #[3, 3] }, type := 9, pos := "bytes.go:91", after := #[{ on := 11, ground := Ground.data }, { on := 7, ground := Ground.chain }], guard := none }) rfl (fun K hK => ?_) AllReadyH.nil
                  go_simp
                  go_wp2_with (go_at_call 21; refine (j3.out _).mono ?_; rintro x wq ⟨rfl, q9⟩; replace d1 := Below.trans d1 (q9.mono d1.size); clear q9)
                  refine hK.out _ _ (KS.out _ d1) (fun hHeld => ?_)
                  clear hK K
                  try simp only [Act.put, List.setIfInBounds_toArray, List.set_cons_zero, List.set_cons_succ]
                  refine wpAnyH_take (i := 13) (oi := { dst := some 191, op := Op.binOp BinOp.add 9 (Operand.tmp 186) (Operand.tmp 190) 9, type := 9, pos := "bytes.go:91", after := #[{ on := 8, ground := Ground.data }, { on := 12, ground := Ground.data }], guard := none }) (v := ?_) rfl (by kernel_rfl) (by kernel_rfl) (by kernel_rfl) (fun _ _ _ h => h) (Or.inl ⟨by rfl, ?_⟩) (by assumption) ?_
                  rotate_left
                  · intro w hSw; (try dsimp only at hSw); go_simp; first | done | with_reducible rfl
                  try simp only [Act.put, List.setIfInBounds_toArray, List.set_cons_zero, List.set_cons_succ]
                  refine wpAnyH_take (i := 14) (oi := { dst := some 5, op := Op.assign (Operand.tmp 191), type := 9, pos := "bytes.go:91", after := #[{ on := 13, ground := Ground.data }, { on := 12, ground := Ground.chain }, { on := 0, ground := Ground.phase }, { on := 1, ground := Ground.phase }, { on := 2, ground := Ground.phase }, { on := 3, ground := Ground.phase }, { on := 4, ground := Ground.phase }, { on := 5, ground := Ground.phase }, { on := 6, ground := Ground.phase }, { on := 7, ground := Ground.phase }, { on := 8, ground := Ground.phase }, { on := 9, ground := Ground.phase }, { on := 10, ground := Ground.phase }, { on := 11, ground := Ground.phase }, { on := 12, ground := Ground.phase }, { on := 13, ground := Ground.phase }], guard := none }) (v := ?_) rfl (by kernel_rfl) (by kernel_rfl) (by kernel_rfl) (fun _ _ _ h => h) (Or.inl ⟨by rfl, ?_⟩) (by assumption) ?_
                  rotate_left
                  · intro w hSw; (try dsimp only at hSw); go_simp; first | done | with_reducible rfl
                  try simp only [Act.put, List.setIfInBounds_toArray, List.set_cons_zero, List.set_cons_succ]
                  refine wpAnyH_done (by kernel_rfl) ?_ _
                  clear hHeld KS
                  clear j1 j2 j3 a0 q0 a1 q1 a2 q2
                  replace BX := Hid.mk (At.underB BX.out d1 BX.out.1)
                  replace L := Hid.mk (below_up L.out (Nat.le_refl _) d1)
                  clear d1
                  generalize wq = V2 at *
                  go_upto_region 35 with fail
                  go_loopw [5, 17] (fun y x ws => ∃ (k : Nat) (B : List UInt8), y = .string (str B) ∧ x = .int .i64 k ∧ k ≤ rr.args.length ∧ Hid (B ++ (typsB (rr.args.drop k) ++ R2) = T) ∧ Hid (Below V2.heap.size V2 ws)) (fun _ x _ => rr.args.length - (intOf x).toNat)
                  case atStart => exact ⟨0, c2, rfl, rfl, Nat.zero_le _, Hid.mk (by rw [List.drop_zero]; exact e2.out), Hid.mk (Below.refl _ _)⟩
                  case round =>
                    clear e2
                    obtain ⟨k, B, rfl, rfl, hk, hF, LL⟩ := hrel
                    generalize wr = ws at *
                    by_cases hkn : k < rr.args.length
                    · obtain ⟨sb, so, hsa, hs1, _, hcell⟩ := kf.out k hkn
                      subst hsa
                      have hsr := hrr.out.2.2.2.2.1 _ (List.getElem_mem hkn)
                      replace hF := hF.out
                      rw [typsB_at hkn, List.append_assoc] at hF
                      generalize rr.args[k] = sl at hcell hF hsr
                      obtain ⟨f0, g0, a0, q0⟩ := step_cat hF hT.out
                      clear hF
                      replace g0 := Hid.mk g0
                      have t1 := Hid.mk (fun W => refTyped_any sl W hsr)
                      generalize typB sl = b1 at *
                      have hkn1 : (k : Int) < (rr.args.length : Int) := Int.ofNat_lt.2 hkn
                      have x2 : ws.cell? ⟨kx, 2, none⟩ = some (.slice (some ⟨sb, so, none⟩) rr.args.length xc) := (At.underB BX.out LL.out BX.out.1).2.1 2
                      have hLW := (below_up L.out (Nat.le_refl _) LL.out).mono (Nat.le_of_lt hB.out)
                      have y0 : ws.cell? ⟨sb, so + k * 7, none⟩ = some (.bool sl.cap) := (hLW.cell (p := ⟨sb, so + k * 7, none⟩) hs1).trans (hcell 0 (by decide))
                      have y1 : ws.cell? ⟨sb, so + k * 7 + 1, none⟩ = some (.int .u64 sl.b) := (hLW.cell (p := ⟨sb, so + k * 7 + 1, none⟩) hs1).trans (hcell 1 (by decide))
                      have y2 : ws.cell? ⟨sb, so + k * 7 + 1 + 1, none⟩ = some (.int .u64 sl.e) := (hLW.cell (p := ⟨sb, so + k * 7 + 1 + 1, none⟩) hs1).trans (hcell 2 (by decide))
                      have y3 : ws.cell? ⟨sb, so + k * 7 + 1 + 1 + 1, none⟩ = some (.int .u64 sl.lo) := (hLW.cell (p := ⟨sb, so + k * 7 + 1 + 1 + 1, none⟩) hs1).trans (hcell 3 (by decide))
                      have y4 : ws.cell? ⟨sb, so + k * 7 + 1 + 1 + 1 + 1, none⟩ = some (.int .u64 sl.hi) := (hLW.cell (p := ⟨sb, so + k * 7 + 1 + 1 + 1 + 1, none⟩) hs1).trans (hcell 4 (by decide))
                      have y5 : ws.cell? ⟨sb, so + k * 7 + 1 + 1 + 1 + 1 + 1, none⟩ = some (.int .u8 sl.p) := (hLW.cell (p := ⟨sb, so + k * 7 + 1 + 1 + 1 + 1 + 1, none⟩) hs1).trans (hcell 5 (by decide))
                      have y6 : ws.cell? ⟨sb, so + k * 7 + 1 + 1 + 1 + 1 + 1 + 1, none⟩ = some (.int .i64 sl.s) := (hLW.cell (p := ⟨sb, so + k * 7 + 1 + 1 + 1 + 1 + 1 + 1, none⟩) hs1).trans (hcell 6 (by decide))
                      clear hLW hcell
                      go_wp2_with fail
                      refine (t1.out _).mono ?_
                      rintro x V9 ⟨rfl, d1⟩
                      clear x2 y0 y1 y2 y3 y4 y5 y6 t1
                      replace LL := Hid.mk (below_up LL.out (Nat.le_refl _) d1)
                      clear d1
                      go_wp2_with fail
                      refine ⟨⟨k + 1, f0, rfl, ?_, hkn, g0, LL⟩, ?_⟩
                      · first | rfl | rw [next_w hkn hrr.out.2.2.1] | go_num
                      · first | exact next_m hkn | (rw [next_w hkn hrr.out.2.2.1]; exact next_m hkn)
                    · have hkn1 : ¬ (k : Int) < (rr.args.length : Int) := fun q => hkn (Int.ofNat_lt.1 q)
                      have ek : k = rr.args.length := Nat.le_antisymm hk (Nat.le_of_not_lt hkn)
                      subst ek
                      replace hF := hF.out
                      rw [List.drop_length, typsB, List.nil_append] at hF
                      have x2 : ws.cell? ⟨kx, 2, none⟩ = some (.slice xa rr.args.length xc) := (At.underB BX.out LL.out BX.out.1).2.1 2
                      replace BX := Hid.mk (At.underB BX.out LL.out BX.out.1)
                      replace L := Hid.mk (below_up L.out (Nat.le_refl _) LL.out)
                      clear LL
                      rw [← hR2.out] at hF
                      obtain ⟨f0, g0, a0, q0⟩ := step_cat hF hT.out
                      clear hF
                      replace g0 := Hid.mk g0
                      have x3 : ws.cell? ⟨kx, 3, none⟩ = some (.slice ya rr.res.length yc) := BX.out.2.1 3
                      go_wp2_with fail
                      refine (j4.out _).mono ?_
                      rintro x V4 ⟨rfl, d1⟩
                      clear x2 x3 j4
                      replace BX := Hid.mk (At.underB BX.out d1 BX.out.1)
                      replace L := Hid.mk (below_up L.out (Nat.le_refl _) d1)
                      clear d1
                      go_upto_region 40 with fail
                      clear a0 q0
                      go_loopw [5, 18] (fun y x ws => ∃ (k : Nat) (B : List UInt8), y = .string (str B) ∧ x = .int .i64 k ∧ k ≤ rr.res.length ∧ Hid (B ++ (typsB (rr.res.drop k) ++ R3) = T) ∧ Hid (Below V4.heap.size V4 ws)) (fun _ x _ => rr.res.length - (intOf x).toNat)
                      case atStart => exact ⟨0, f0, rfl, rfl, Nat.zero_le _, Hid.mk (by rw [List.drop_zero]; exact g0.out), Hid.mk (Below.refl _ _)⟩
                      case round =>
                        clear g0
                        obtain ⟨k, B, rfl, rfl, hk, hF, LL⟩ := hrel
                        generalize wr = ws at *
                        by_cases hkn : k < rr.res.length
                        · obtain ⟨sb, so, hsa, hs1, _, hcell⟩ := kl.out k hkn
                          subst hsa
                          have hsr := hrr.out.2.2.2.2.2 _ (List.getElem_mem hkn)
                          replace hF := hF.out
                          rw [typsB_at hkn, List.append_assoc] at hF
                          generalize rr.res[k] = sl at hcell hF hsr
                          obtain ⟨f0, g0, a0, q0⟩ := step_cat hF hT.out
                          clear hF
                          replace g0 := Hid.mk g0
                          have t1 := Hid.mk (fun W => refTyped_any sl W hsr)
                          generalize typB sl = b1 at *
                          have hkn1 : (k : Int) < (rr.res.length : Int) := Int.ofNat_lt.2 hkn
                          have x2 : ws.cell? ⟨kx, 3, none⟩ = some (.slice (some ⟨sb, so, none⟩) rr.res.length yc) := (At.underB BX.out LL.out BX.out.1).2.1 3
                          have hLW := (below_up L.out (Nat.le_refl _) LL.out).mono (Nat.le_of_lt hB.out)
                          have y0 : ws.cell? ⟨sb, so + k * 7, none⟩ = some (.bool sl.cap) := (hLW.cell (p := ⟨sb, so + k * 7, none⟩) hs1).trans (hcell 0 (by decide))
                          have y1 : ws.cell? ⟨sb, so + k * 7 + 1, none⟩ = some (.int .u64 sl.b) := (hLW.cell (p := ⟨sb, so + k * 7 + 1, none⟩) hs1).trans (hcell 1 (by decide))
                          have y2 : ws.cell? ⟨sb, so + k * 7 + 1 + 1, none⟩ = some (.int .u64 sl.e) := (hLW.cell (p := ⟨sb, so + k * 7 + 1 + 1, none⟩) hs1).trans (hcell 2 (by decide))
                          have y3 : ws.cell? ⟨sb, so + k * 7 + 1 + 1 + 1, none⟩ = some (.int .u64 sl.lo) := (hLW.cell (p := ⟨sb, so + k * 7 + 1 + 1 + 1, none⟩) hs1).trans (hcell 3 (by decide))
                          have y4 : ws.cell? ⟨sb, so + k * 7 + 1 + 1 + 1 + 1, none⟩ = some (.int .u64 sl.hi) := (hLW.cell (p := ⟨sb, so + k * 7 + 1 + 1 + 1 + 1, none⟩) hs1).trans (hcell 4 (by decide))
                          have y5 : ws.cell? ⟨sb, so + k * 7 + 1 + 1 + 1 + 1 + 1, none⟩ = some (.int .u8 sl.p) := (hLW.cell (p := ⟨sb, so + k * 7 + 1 + 1 + 1 + 1 + 1, none⟩) hs1).trans (hcell 5 (by decide))
                          have y6 : ws.cell? ⟨sb, so + k * 7 + 1 + 1 + 1 + 1 + 1 + 1, none⟩ = some (.int .i64 sl.s) := (hLW.cell (p := ⟨sb, so + k * 7 + 1 + 1 + 1 + 1 + 1 + 1, none⟩) hs1).trans (hcell 6 (by decide))
                          clear hLW hcell
                          go_wp2_with fail
                          refine (t1.out _).mono ?_
                          rintro x V9 ⟨rfl, d1⟩
                          clear x2 y0 y1 y2 y3 y4 y5 y6 t1
                          replace LL := Hid.mk (below_up LL.out (Nat.le_refl _) d1)
                          clear d1
                          go_wp2_with fail
                          refine ⟨⟨k + 1, f0, rfl, ?_, hkn, g0, LL⟩, ?_⟩
                          · first | rfl | rw [next_w hkn hrr.out.2.2.2.1] | go_num
                          · first | exact next_m hkn | (rw [next_w hkn hrr.out.2.2.2.1]; exact next_m hkn)
                        · have hkn1 : ¬ (k : Int) < (rr.res.length : Int) := fun q => hkn (Int.ofNat_lt.1 q)
                          have ek : k = rr.res.length := Nat.le_antisymm hk (Nat.le_of_not_lt hkn)
                          subst ek
                          replace hF := hF.out
                          rw [List.drop_length, typsB, List.nil_append] at hF
                          have x2 : ws.cell? ⟨kx, 3, none⟩ = some (.slice ya rr.res.length yc) := (At.underB BX.out LL.out BX.out.1).2.1 3
                          replace BX := Hid.mk (At.underB BX.out LL.out BX.out.1)
                          replace L := Hid.mk (below_up L.out (Nat.le_refl _) LL.out)
                          clear LL
                          rw [← hR3.out] at hF
                          replace hF := Hid.mk hF
                          go_wp2_with fail
                          refine ⟨⟨i + 1, B, rfl, ?_, hn, hF, L⟩, ?_⟩
                          · first | rfl | rw [next_w hn hl3.out] | go_num
                          · first | exact next_m hn | (rw [next_w hn hl3.out]; exact next_m hn)
                · have hi1 : ¬ (i : Int) < (m.gates.length : Int) := fun q => hn (Int.ofNat_lt.1 q)
                  have ei : i = m.gates.length := Nat.le_antisymm hi (Nat.le_of_not_lt hn)
                  subst ei
                  replace hE := hE.out
                  rw [List.drop_length, gatesB, List.append_nil, List.append_nil] at hE
                  subst hE
                  replace G0 := Hid.mk (below_up G0.out (Nat.le_refl _) (L.out.mono (Nat.le_refl _)))
                  go_wp2_with fail
                  simp [bodyPost, results, Tryz.results7, go_sem]
                  exact G0.out
    · have he : encI m = ([], 42) := by unfold encI; rw [if_pos h0, if_neg hlen]
      rw [he]
      clear he hr
      have hgt : (40000 : Int) < ((imgB m).length : Int) := Int.ofNat_lt.2 (Nat.lt_of_not_le hlen)
      generalize ((imgB m).length : Int) = n at *
      rw [h0] at hR
      clear h0 hlen
      go_enter Tryz.func7, Tryz.ntmps7
      go_upto_region 1 with fail
      refine wp_world (fun W => At W w.heap.size #[.slice ra m.regs.length rc, .slice ca m.comps.length cc, .slice ga m.gates.length gc, .int .i64 m.depth] ∧ Gr w W) ⟨At.new w _ _, (Gr.refl w).alloc _⟩ ?_
      rintro W0 ⟨BM, G0⟩
      replace BM := Hid.mk BM
      have hm : Hid (ImgIn w.heap.size W0 ra ca ga m) := Hid.mk (hm0.out.below (gr_belowR G0 (Nat.le_refl _)))
      have hB : Hid (w.heap.size < W0.heap.size) := Hid.mk BM.out.1
      replace G0 := Hid.mk G0.below
      clear hm0
      have m0 : W0.cell? ⟨w.heap.size, 0, none⟩ = some (.slice ra m.regs.length rc) := (At.underB BM.out (Below.refl _ _) hB.out).2.1 0
      have m1 : W0.cell? ⟨w.heap.size, 1, none⟩ = some (.slice ca m.comps.length cc) := (At.underB BM.out (Below.refl _ _) hB.out).2.1 1
      have m2 : W0.cell? ⟨w.heap.size, 2, none⟩ = some (.slice ga m.gates.length gc) := (At.underB BM.out (Below.refl _ _) hB.out).2.1 2
      have m3 : W0.cell? ⟨w.heap.size, 3, none⟩ = some (.int .i64 m.depth) := (At.underB BM.out (Below.refl _ _) hB.out).2.1 3
      go_wp2_with fail
      refine (hR.out W0 (hm.out.mono (Nat.le_of_lt hB.out))).mono ?_
      rintro x w1 ⟨rfl, q9⟩
      clear m0 m1 m2 m3
      have L := Hid.mk q9.below
      clear q9
      have m0 : w1.cell? ⟨w.heap.size, 0, none⟩ = some (.slice ra m.regs.length rc) := (At.underB BM.out L.out hB.out).2.1 0
      have m1 : w1.cell? ⟨w.heap.size, 1, none⟩ = some (.slice ca m.comps.length cc) := (At.underB BM.out L.out hB.out).2.1 1
      have m2 : w1.cell? ⟨w.heap.size, 2, none⟩ = some (.slice ga m.gates.length gc) := (At.underB BM.out L.out hB.out).2.1 2
      have m3 : w1.cell? ⟨w.heap.size, 3, none⟩ = some (.int .i64 m.depth) := (At.underB BM.out L.out hB.out).2.1 3
      go_wp2_with fail
      refine (hS.out w1 ((hm.out.below (L.out.mono (Nat.le_of_lt hB.out))).mono (Nat.le_trans (Nat.le_of_lt hB.out) L.out.size))).mono ?_
      rintro x w2 ⟨rfl, q9⟩
      clear m0 m1 m2 m3
      replace L := Hid.mk (below_up L.out (Nat.le_refl _) q9)
      clear q9
      replace G0 := Hid.mk (below_up G0.out (Nat.le_refl _) (L.out.mono (Nat.le_refl _)))
      go_wp2_with fail
      simp [bodyPost, results, Tryz.results7, go_sem]
      exact ⟨rfl, G0.out⟩
  · have he : encI m = ([], m.right) := by unfold encI; rw [if_neg h0]
    rw [he]
    clear he hr hS
    have h9 : (m.right == 0) = false := by rw [beq_eq_false_iff_ne]; exact h0
    generalize m.right = n at *
    clear h0
    go_enter Tryz.func7, Tryz.ntmps7
    go_upto_region 1 with fail
    refine wp_world (fun W => At W w.heap.size #[.slice ra m.regs.length rc, .slice ca m.comps.length cc, .slice ga m.gates.length gc, .int .i64 m.depth] ∧ Gr w W) ⟨At.new w _ _, (Gr.refl w).alloc _⟩ ?_
    rintro W0 ⟨BM, G0⟩
    replace BM := Hid.mk BM
    have hm : Hid (ImgIn w.heap.size W0 ra ca ga m) := Hid.mk (hm0.out.below (gr_belowR G0 (Nat.le_refl _)))
    have hB : Hid (w.heap.size < W0.heap.size) := Hid.mk BM.out.1
    replace G0 := Hid.mk G0.below
    clear hm0
    have m0 : W0.cell? ⟨w.heap.size, 0, none⟩ = some (.slice ra m.regs.length rc) := (At.underB BM.out (Below.refl _ _) hB.out).2.1 0
    have m1 : W0.cell? ⟨w.heap.size, 1, none⟩ = some (.slice ca m.comps.length cc) := (At.underB BM.out (Below.refl _ _) hB.out).2.1 1
    have m2 : W0.cell? ⟨w.heap.size, 2, none⟩ = some (.slice ga m.gates.length gc) := (At.underB BM.out (Below.refl _ _) hB.out).2.1 2
    have m3 : W0.cell? ⟨w.heap.size, 3, none⟩ = some (.int .i64 m.depth) := (At.underB BM.out (Below.refl _ _) hB.out).2.1 3
    go_wp2_with fail
    refine (hR.out W0 (hm.out.mono (Nat.le_of_lt hB.out))).mono ?_
    rintro x w1 ⟨rfl, q9⟩
    clear m0 m1 m2 m3
    have L := Hid.mk q9.below
    clear q9
    replace G0 := Hid.mk (below_up G0.out (Nat.le_refl _) (L.out.mono (Nat.le_refl _)))
    go_wp2_with fail
    simp [bodyPost, results, Tryz.results7, go_sem]
    exact ⟨rfl, G0.out⟩
end Q
end Go.Proofs.YtmmakknhaacplaaGreatDoor
