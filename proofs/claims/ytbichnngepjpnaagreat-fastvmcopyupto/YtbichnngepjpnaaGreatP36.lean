import Derived.Test.YtbichnngepjpnaaGreatP34
import Derived.Test.YtbichnngepjpnaaGreatP35
import Derived.Test.YtbichnngepjpnaaGreatP24
/-
  Stage 13, fastvm: how a machine begins is in order.
-/
namespace Go.Proofs.YtbichnngepjpnaaGreat
namespace Z
open Go.RowKit
open T (Sep Ob Kp Mf FlIn boxOb)

/-- What values of their types are. -/
structure Rp.Wds (R : Rp) : Prop where
  code : R.Is
  root : ∀ g ∈ R.gates, ∀ j, Wd (g.r j)
theorem Rp.Wds.rr {R : Rp} (h : R.Wds) : R.pr.Rr := by
  intro k j
  unfold Pr.gate
  by_cases hk : k < R.gates.length
  · have e : R.pr.gates.getD k ⟨0, 0, 0, fun _ => 0⟩ = R.gates[k].fg := by simp [Rp.pr, hk]
    rw [e]
    exact h.root _ (List.getElem_mem hk) j
  · have e : R.pr.gates.getD k ⟨0, 0, 0, fun _ => 0⟩ = ⟨0, 0, 0, fun _ => 0⟩ := by
      have : R.pr.gates.length ≤ k := by simp [Rp.pr]; omega
      simp [this]
    rw [e]
    exact wd0
theorem start_okn (R : Rp) (m : Nat) (gate n : Nat) (A : Nat → Int) (L : List Int) (mem : List UInt8) (h : R.Wds) (ok : R.Ok m) (hg : gate < R.gates.length) (hA : ∀ j, Wd (A j)) (hL : ∀ x ∈ L, Wd x) (hl : L.length ≤ 2000000) : (start R.gates[gate].fg gate n A L mem).Okn R.pr 0 := by
  obtain ⟨h1, h2, h3⟩ := start_ok R m gate n A L mem ok (fun k hk j => h.root _ (List.getElem_mem hk) j) hg hA
  refine ⟨h1, h2, h3, ?_, fun f hf => ?_, hL, ?_, fun x hx => ?_, Nat.le_refl _, Nat.le_refl _, wd0⟩
  · show ((0 : Nat) : Int) ≤ R.dep
    have := ok.dp
    omega
  · cases hf
  · show L.length ≤ _
    omega
  · cases hx
/-- Run of fuel below 0. -/
theorem runM_zero (P : Pr) (s : Fm) : runM P s 0 = if s.e = 0 then sp s else s := rfl
/-- So many steps one by one. -/
def onesM (P : Pr) (s : Fm) : Nat → Fm
  | 0 => s
  | k + 1 => stepsM P (onesM P s k) 1
theorem ones_steps (P : Pr) (s : Fm) (k : Nat) : onesM P s k = stepsM P s k := by
  induction k with
  | zero => rfl
  | succ k ih =>
    show stepsM P (onesM P s k) 1 = _
    rw [ih]
    rfl
/-- Behind the end nothing changes. -/
theorem stepsM_end (P : Pr) (s : Fm) (n : Nat) (h : s.e ≠ 0) : stepsM P s n = s := by
  have := stepsM_over P s 0 n h
  rwa [Nat.zero_add] at this
theorem runM_end (P : Pr) (s : Fm) (n : Nat) (h : s.e ≠ 0) : runM P s n = s := by
  unfold runM
  rw [stepsM_end P s n h, if_neg h]
theorem runM_e (P : Pr) (s : Fm) (n : Nat) : (runM P s n).e ≠ 0 := by
  unfold runM
  split
  · show (4 : Int) ≠ 0
    decide
  · assumption
end Z
end Go.Proofs.YtbichnngepjpnaaGreat


/-
  Stage 13, fastvm: lists that are the same.
-/
namespace Go.Proofs.YtbichnngepjpnaaGreat
namespace Z
open Go.RowKit
open T (Sep Ob Kp Mf FlIn boxOb)

/-- Numbers that lie in a row. -/
def WIn (w : World) (a : Option Addr) (L : List Int) : Prop := ∀ i (h : i < L.length), ∃ b off : Nat, a = some ⟨b, off, none⟩ ∧ b < w.heap.size ∧ w.cell? ⟨b, off + i, none⟩ = some (.int .u64 L[i])
theorem WIn.gr {w W : World} {a : Option Addr} {L : List Int} (h : WIn w a L) (g : Gr w W) : WIn W a L := fun i hi => by
  obtain ⟨b, off, e1, e2, e3⟩ := h i hi
  exact ⟨b, off, e1, Nat.lt_of_lt_of_le e2 g.below.size, (T.cell_of_block (g.below.block b e2) _).trans e3⟩
set_option maxRecDepth 100000 in
set_option maxHeartbeats 4000000 in
theorem sameWords_any (A B : List Int) (sa sb : Option Addr) (ca cb : Nat) (w : World) (hA : WIn w sa A) (hB : WIn w sb B) (hl : A.length ≤ 1000000) :
    Calls Tryz.prog 11 #[.slice sa A.length ca, .slice sb B.length cb] w fun x w' => Says (A = B) x ∧ Gr w w' := by
  by_cases hn : A.length = B.length
  rotate_left
  · have hni : ((A.length : Int) != (B.length : Int)) = true := by simp; omega
    have z : Hz (Says (A = B) (.returned (.bool false))) := Hz.mk ⟨false, rfl, iff_of_false (by decide) (fun q => hn (by rw [q]))⟩
    clear hn
    go_enter Tryz.func11, Tryz.ntmps11
    go_wp2_with fail
    go_ret
    exact ⟨z.out, Gr.refl _⟩
  have hni : ((A.length : Int) != (B.length : Int)) = false := by simp; omega
  replace hA := Hz.mk hA
  replace hB := Hz.mk hB
  replace hn := Hz.mk hn
  go_enter Tryz.func11, Tryz.ntmps11
  go_upto_region 4 with fail
  go_loopw [5] (fun x wr => ∃ j : Nat, x = .int .i64 j ∧ j ≤ A.length ∧ Hz (∀ m (h : m < A.length) (h2 : m < B.length), m < j → A[m] = B[m]) ∧ Hz (Gr w wr)) (fun x _ => A.length - (intOf x).toNat)
  case atStart => exact ⟨0, rfl, Nat.zero_le _, Hz.mk (fun m _ _ q => absurd q (Nat.not_lt_zero _)), Hz.mk (Gr.refl _)⟩
  case round =>
    obtain ⟨j, rfl, hjl, hbe, G⟩ := hrel
    by_cases hj : j < A.length
    · have hj2 : j < B.length := by rw [← hn.out]; exact hj
      have hj1 : (j : Int) < (A.length : Int) := Int.ofNat_lt.2 hj
      have hj3 : (j : Int) < (B.length : Int) := Int.ofNat_lt.2 hj2
      obtain ⟨b1, o1, rfl, k1, c1⟩ := (hA.out.gr G.out) j hj
      obtain ⟨b2, o2, rfl, k2, c2⟩ := (hB.out.gr G.out) j hj2
      have GD : Gr wr wr.drew := (Gr.refl wr).drew
      by_cases he : A[j] = B[j]
      rotate_left
      · have hei : (A[j] != B[j]) = true := by simpa using he
        have z : Hz (Says (A = B) (.returned (.bool false))) := Hz.mk ⟨false, rfl, iff_of_false (by decide) (fun q => he (by subst q; rfl))⟩
        clear he
        go_upto_region 6 with fail
        refine wp_region_held_drew (S := (fun W => W.cell? ⟨b1, o1 + j, none⟩ = some (.int .u64 (A[j]'hj)) ∧ W.cell? ⟨b2, o2 + j, none⟩ = some (.int .u64 (B[j]'hj2)))) (by kernel_rfl) (⟨(T.cell_of_block (GD.below.block b1 k1) _).trans c1, (T.cell_of_block (GD.below.block b2 k2) _).trans c2⟩) (fun hHeld => ?_)
        refine wpAnyH_take (i := 0) (oi := { dst := some 17, op := Op.move (Operand.tmp 0), type := 26, pos := "law.go:69", after := #[], guard := none }) (v := ?_) rfl (by kernel_rfl) (by kernel_rfl) (by kernel_rfl) (fun _ _ _ h => h) (Or.inl ⟨by rfl, ?_⟩) (by assumption) ?_
        rotate_left
        · intro w hSw; (try dsimp only at hSw); go_simp; first | done | with_reducible rfl
        try simp only [Act.put, List.setIfInBounds_toArray, List.set_cons_zero, List.set_cons_succ]
        refine wpAnyH_take (i := 1) (oi := { dst := some 18, op := Op.move (Operand.tmp 5), type := 3, pos := "law.go:69", after := #[], guard := none }) (v := ?_) rfl (by kernel_rfl) (by kernel_rfl) (by kernel_rfl) (fun _ _ _ h => h) (Or.inl ⟨by rfl, ?_⟩) (by assumption) ?_
        rotate_left
        · intro w hSw; (try dsimp only at hSw); go_simp; first | done | with_reducible rfl
        try simp only [Act.put, List.setIfInBounds_toArray, List.set_cons_zero, List.set_cons_succ]
        refine wpAnyH_take (i := 2) (oi := { dst := some 19, op := Op.indexAddr 26 (Operand.tmp 17) (Operand.tmp 18), type := 0, pos := "law.go:69", after := #[{ on := 0, ground := Ground.data }, { on := 1, ground := Ground.data }], guard := none }) (v := ?_) rfl (by kernel_rfl) (by kernel_rfl) (by kernel_rfl) (fun _ _ _ h => h) (Or.inl ⟨by rfl, ?_⟩) (by assumption) ?_
        rotate_left
        · intro w hSw; (try dsimp only at hSw); go_simp; first | done | with_reducible rfl
        try simp only [Act.put, List.setIfInBounds_toArray, List.set_cons_zero, List.set_cons_succ]
        refine wpAnyH_take (i := 3) (oi := { dst := some 20, op := Op.load 31 (Operand.tmp 19), type := 31, pos := "law.go:69", after := #[{ on := 2, ground := Ground.data }], guard := none }) (v := ?_) rfl (by kernel_rfl) (by kernel_rfl) (by kernel_rfl) (fun _ _ _ h => h) (Or.inl ⟨by rfl, ?_⟩) (by assumption) ?_
        rotate_left
        · intro w hSw; (try dsimp only at hSw); go_simp; first | done | with_reducible rfl
        try simp only [Act.put, List.setIfInBounds_toArray, List.set_cons_zero, List.set_cons_succ]
        refine wpAnyH_take (i := 4) (oi := { dst := some 21, op := Op.move (Operand.tmp 1), type := 26, pos := "law.go:69", after := #[], guard := none }) (v := ?_) rfl (by kernel_rfl) (by kernel_rfl) (by kernel_rfl) (fun _ _ _ h => h) (Or.inl ⟨by rfl, ?_⟩) (by assumption) ?_
        rotate_left
        · intro w hSw; (try dsimp only at hSw); go_simp; first | done | with_reducible rfl
        try simp only [Act.put, List.setIfInBounds_toArray, List.set_cons_zero, List.set_cons_succ]
        refine wpAnyH_take (i := 5) (oi := { dst := some 22, op := Op.move (Operand.tmp 5), type := 3, pos := "law.go:69", after := #[], guard := none }) (v := ?_) rfl (by kernel_rfl) (by kernel_rfl) (by kernel_rfl) (fun _ _ _ h => h) (Or.inl ⟨by rfl, ?_⟩) (by assumption) ?_
        rotate_left
        · intro w hSw; (try dsimp only at hSw); go_simp; first | done | with_reducible rfl
        try simp only [Act.put, List.setIfInBounds_toArray, List.set_cons_zero, List.set_cons_succ]
        refine wpAnyH_take (i := 6) (oi := { dst := some 23, op := Op.indexAddr 26 (Operand.tmp 21) (Operand.tmp 22), type := 0, pos := "law.go:69", after := #[{ on := 4, ground := Ground.data }, { on := 5, ground := Ground.data }], guard := none }) (v := ?_) rfl (by kernel_rfl) (by kernel_rfl) (by kernel_rfl) (fun _ _ _ h => h) (Or.inl ⟨by rfl, ?_⟩) (by assumption) ?_
        rotate_left
        · intro w hSw; (try dsimp only at hSw); go_simp; first | done | with_reducible rfl
        try simp only [Act.put, List.setIfInBounds_toArray, List.set_cons_zero, List.set_cons_succ]
        refine wpAnyH_take (i := 7) (oi := { dst := some 24, op := Op.load 31 (Operand.tmp 23), type := 31, pos := "law.go:69", after := #[{ on := 6, ground := Ground.data }], guard := none }) (v := ?_) rfl (by kernel_rfl) (by kernel_rfl) (by kernel_rfl) (fun _ _ _ h => h) (Or.inl ⟨by rfl, ?_⟩) (by assumption) ?_
        rotate_left
        · intro w hSw; (try dsimp only at hSw); go_simp; first | done | with_reducible rfl
        try simp only [Act.put, List.setIfInBounds_toArray, List.set_cons_zero, List.set_cons_succ]
        refine wpAnyH_take (i := 8) (oi := { dst := some 25, op := Op.binOp BinOp.neq 31 (Operand.tmp 20) (Operand.tmp 24) 31, type := 4, pos := "law.go:69", after := #[{ on := 3, ground := Ground.data }, { on := 7, ground := Ground.data }], guard := none }) (v := ?_) rfl (by kernel_rfl) (by kernel_rfl) (by kernel_rfl) (fun _ _ _ h => h) (Or.inl ⟨by rfl, ?_⟩) (by assumption) ?_
        rotate_left
        · intro w hSw; (try dsimp only at hSw); go_simp; first | done | with_reducible rfl
        try simp only [Act.put, List.setIfInBounds_toArray, List.set_cons_zero, List.set_cons_succ]
        refine wpAnyH_done (by kernel_rfl) ?_ _
        clear hHeld
        go_wp2_with fail
        go_ret
        exact ⟨z.out, G.out.trans GD⟩
      have hei : (A[j] != B[j]) = false := by simpa using he
      have hbe2 : Hz (∀ m (h : m < A.length) (h2 : m < B.length), m < j + 1 → A[m] = B[m]) := Hz.mk (fun m h h2 q => by
        by_cases e : m < j
        · exact hbe.out m h h2 e
        · obtain rfl : m = j := by omega
          exact he)
      replace he := Hz.mk he
      go_upto_region 6 with fail
      refine wp_region_held_drew (S := (fun W => W.cell? ⟨b1, o1 + j, none⟩ = some (.int .u64 (A[j]'hj)) ∧ W.cell? ⟨b2, o2 + j, none⟩ = some (.int .u64 (B[j]'hj2)))) (by kernel_rfl) (⟨(T.cell_of_block (GD.below.block b1 k1) _).trans c1, (T.cell_of_block (GD.below.block b2 k2) _).trans c2⟩) (fun hHeld => ?_)
      refine wpAnyH_take (i := 0) (oi := { dst := some 17, op := Op.move (Operand.tmp 0), type := 26, pos := "law.go:69", after := #[], guard := none }) (v := ?_) rfl (by kernel_rfl) (by kernel_rfl) (by kernel_rfl) (fun _ _ _ h => h) (Or.inl ⟨by rfl, ?_⟩) (by assumption) ?_
      rotate_left
      · intro w hSw; (try dsimp only at hSw); go_simp; first | done | with_reducible rfl
      try simp only [Act.put, List.setIfInBounds_toArray, List.set_cons_zero, List.set_cons_succ]
      refine wpAnyH_take (i := 1) (oi := { dst := some 18, op := Op.move (Operand.tmp 5), type := 3, pos := "law.go:69", after := #[], guard := none }) (v := ?_) rfl (by kernel_rfl) (by kernel_rfl) (by kernel_rfl) (fun _ _ _ h => h) (Or.inl ⟨by rfl, ?_⟩) (by assumption) ?_
      rotate_left
      · intro w hSw; (try dsimp only at hSw); go_simp; first | done | with_reducible rfl
      try simp only [Act.put, List.setIfInBounds_toArray, List.set_cons_zero, List.set_cons_succ]
      refine wpAnyH_take (i := 2) (oi := { dst := some 19, op := Op.indexAddr 26 (Operand.tmp 17) (Operand.tmp 18), type := 0, pos := "law.go:69", after := #[{ on := 0, ground := Ground.data }, { on := 1, ground := Ground.data }], guard := none }) (v := ?_) rfl (by kernel_rfl) (by kernel_rfl) (by kernel_rfl) (fun _ _ _ h => h) (Or.inl ⟨by rfl, ?_⟩) (by assumption) ?_
      rotate_left
      · intro w hSw; (try dsimp only at hSw); go_simp; first | done | with_reducible rfl
      try simp only [Act.put, List.setIfInBounds_toArray, List.set_cons_zero, List.set_cons_succ]
      refine wpAnyH_take (i := 3) (oi := { dst := some 20, op := Op.load 31 (Operand.tmp 19), type := 31, pos := "law.go:69", after := #[{ on := 2, ground := Ground.data }], guard := none }) (v := ?_) rfl (by kernel_rfl) (by kernel_rfl) (by kernel_rfl) (fun _ _ _ h => h) (Or.inl ⟨by rfl, ?_⟩) (by assumption) ?_
      rotate_left
      · intro w hSw; (try dsimp only at hSw); go_simp; first | done | with_reducible rfl
      try simp only [Act.put, List.setIfInBounds_toArray, List.set_cons_zero, List.set_cons_succ]
      refine wpAnyH_take (i := 4) (oi := { dst := some 21, op := Op.move (Operand.tmp 1), type := 26, pos := "law.go:69", after := #[], guard := none }) (v := ?_) rfl (by kernel_rfl) (by kernel_rfl) (by kernel_rfl) (fun _ _ _ h => h) (Or.inl ⟨by rfl, ?_⟩) (by assumption) ?_
      rotate_left
      · intro w hSw; (try dsimp only at hSw); go_simp; first | done | with_reducible rfl
      try simp only [Act.put, List.setIfInBounds_toArray, List.set_cons_zero, List.set_cons_succ]
      refine wpAnyH_take (i := 5) (oi := { dst := some 22, op := Op.move (Operand.tmp 5), type := 3, pos := "law.go:69", after := #[], guard := none }) (v := ?_) rfl (by kernel_rfl) (by kernel_rfl) (by kernel_rfl) (fun _ _ _ h => h) (Or.inl ⟨by rfl, ?_⟩) (by assumption) ?_
      rotate_left
      · intro w hSw; (try dsimp only at hSw); go_simp; first | done | with_reducible rfl
      try simp only [Act.put, List.setIfInBounds_toArray, List.set_cons_zero, List.set_cons_succ]
      refine wpAnyH_take (i := 6) (oi := { dst := some 23, op := Op.indexAddr 26 (Operand.tmp 21) (Operand.tmp 22), type := 0, pos := "law.go:69", after := #[{ on := 4, ground := Ground.data }, { on := 5, ground := Ground.data }], guard := none }) (v := ?_) rfl (by kernel_rfl) (by kernel_rfl) (by kernel_rfl) (fun _ _ _ h => h) (Or.inl ⟨by rfl, ?_⟩) (by assumption) ?_
      rotate_left
      · intro w hSw; (try dsimp only at hSw); go_simp; first | done | with_reducible rfl
      try simp only [Act.put, List.setIfInBounds_toArray, List.set_cons_zero, List.set_cons_succ]
      refine wpAnyH_take (i := 7) (oi := { dst := some 24, op := Op.load 31 (Operand.tmp 23), type := 31, pos := "law.go:69", after := #[{ on := 6, ground := Ground.data }], guard := none }) (v := ?_) rfl (by kernel_rfl) (by kernel_rfl) (by kernel_rfl) (fun _ _ _ h => h) (Or.inl ⟨by rfl, ?_⟩) (by assumption) ?_
      rotate_left
      · intro w hSw; (try dsimp only at hSw); go_simp; first | done | with_reducible rfl
      try simp only [Act.put, List.setIfInBounds_toArray, List.set_cons_zero, List.set_cons_succ]
      refine wpAnyH_take (i := 8) (oi := { dst := some 25, op := Op.binOp BinOp.neq 31 (Operand.tmp 20) (Operand.tmp 24) 31, type := 4, pos := "law.go:69", after := #[{ on := 3, ground := Ground.data }, { on := 7, ground := Ground.data }], guard := none }) (v := ?_) rfl (by kernel_rfl) (by kernel_rfl) (by kernel_rfl) (fun _ _ _ h => h) (Or.inl ⟨by rfl, ?_⟩) (by assumption) ?_
      rotate_left
      · intro w hSw; (try dsimp only at hSw); go_simp; first | done | with_reducible rfl
      try simp only [Act.put, List.setIfInBounds_toArray, List.set_cons_zero, List.set_cons_succ]
      refine wpAnyH_done (by kernel_rfl) ?_ _
      clear hHeld
      have G4 := Hz.mk (G.out.trans GD)
      clear hbe G GD he
      go_wp2_with fail
      refine ⟨⟨j + 1, ?_, hj, hbe2, G4⟩, ?_⟩
      · first | rfl | (rw [show wrap64 ((j : Int) + 1) = ((j + 1 : Nat) : Int) by unfold wrap64; omega]) | go_num
      · first | (simp [intOf]; omega) | (rw [show wrap64 ((j : Int) + 1) = ((j + 1 : Nat) : Int) by unfold wrap64; omega]; simp [intOf]; omega)
    · have hj1 : ¬ (j : Int) < (A.length : Int) := fun q => hj (Int.ofNat_lt.1 q)
      have z : Hz (Says (A = B) (.returned (.bool true))) := Hz.mk ⟨true, rfl, iff_of_true rfl (List.ext_getElem hn.out (fun m h h2 => hbe.out m h h2 (by omega)))⟩
      go_wp2_with fail
      go_ret
      exact ⟨z.out, G.out⟩
end Z
end Go.Proofs.YtbichnngepjpnaaGreat


/-
  Stage 13, fastvm: where a raw program begins.
-/
namespace Go.Proofs.YtbichnngepjpnaaGreat
namespace Z
open Go.RowKit
open T (Sep Ob Kp Mf FlIn boxOb)

set_option maxRecDepth 100000 in
set_option maxHeartbeats 4000000 in
theorem entry_none (R : Rp) (ca ga : Option Addr) (cc gc : Nat) (mem : ByteArray) (gate : Int) (v : Value) (w : World) (h : R.gates.length = 0 ∨ gate < 0) :
    Calls Tryz.prog 19 #[.agg #[.slice ca R.code.length cc, .slice ga R.gates.length gc, .string mem, .int .i64 R.dep], .int .i64 gate, v] w fun x w' => x = .returned (.tuple #[.int .i64 gate, v]) ∧ Gr w w' := by
  go_enter Tryz.func19, Tryz.ntmps19
  go_upto_region 1 with fail
  refine wp_world (fun W => At W w.heap.size #[.slice ca R.code.length cc, .slice ga R.gates.length gc, .string mem, .int .i64 R.dep] ∧ Gr w W) ⟨At.new w _ _, (Gr.refl _).alloc _⟩ ?_
  rintro W ⟨hQ, G⟩
  have hks : Hz (w.heap.size < W.heap.size) := Hz.mk hQ.1
  have d1 : W.cell? ⟨w.heap.size, 1, none⟩ = some (.slice ga R.gates.length gc) := hQ.2.1 1
  generalize w.heap.size = kp at *
  by_cases h0 : R.gates.length = 0
  · have hz : ((R.gates.length : Int) == 0) = true := by simp [h0]
    clear h h0
    go_wp2_with fail
    go_ret2
    exact ⟨rfl, G⟩
  · have hz : ((R.gates.length : Int) == 0) = false := beq_false_of_ne (by omega)
    have hg : gate < 0 := by
      rcases h with q | q
      · exact absurd q h0
      · exact q
    clear h h0
    go_wp2_with fail
    go_ret2
    exact ⟨rfl, G⟩
theorem own_monoZ {w : World} {lo lo2 e s n : Nat} {v : Value} {xs : List Value} (h : w.ownsRow lo e s v n xs) (hl : lo2 ≤ lo) : w.ownsRow lo2 e s v n xs := by
  refine ⟨h.1, ?_⟩
  rcases h.2 with q | ⟨g, cap, cur, e1, e2, e3⟩
  · exact .inl q
  · exact .inr ⟨g, cap, cur, e1, Nat.le_trans hl e2, e3⟩
def entL (A : List Int) (n : Nat) : List Int := (List.range n).map fun i => A.getD i (i : Int)
theorem entL_len (A : List Int) (n : Nat) : (entL A n).length = n := by simp [entL]
theorem entL_succ (A : List Int) (n : Nat) : entL A (n + 1) = entL A n ++ [A.getD n (n : Int)] := by simp [entL, List.range_succ]
set_option maxRecDepth 100000 in
set_option maxHeartbeats 4000000 in
theorem entry_any (R : Rp) (ca ga : Option Addr) (cc gc : Nat) (mem : ByteArray) (gate g : Nat) (A : List Int) (sa : Option Addr) (sc : Nat) (w : World) (hP : RpIn w ca ga R) (hA : WIn w sa A) (h0 : 0 < R.gates.length) (hg : g = gate % R.gates.length) (hgl : g < R.gates.length) (n : Nat) (hn : n ≤ 20) (hn2 : (n : Int) = R.gates[g].a ∨ (R.gates[g].a < 0 ∧ n = 0) ∨ (20 < R.gates[g].a ∧ n = 20)) :
    Calls Tryz.prog 19 #[.agg #[.slice ca R.code.length cc, .slice ga R.gates.length gc, .string mem, .int .i64 R.dep], .int .i64 gate, .slice sa A.length sc] w fun x w' => ∃ v, x = .returned (.tuple #[.int .i64 g, v]) ∧ w'.ownsRow w.heap.size 31 1 v n ((entL A n).map u64I) ∧ Below w.heap.size w w' := by
  have hz : ((R.gates.length : Int) == 0) = false := beq_false_of_ne (by omega)
  have hrm : Int.tmod (gate : Int) (R.gates.length : Int) = (g : Int) := by rw [hg]; rfl
  have hgi : (g : Int) < (R.gates.length : Int) := Int.ofNat_lt.2 hgl
  go_enter Tryz.func19, Tryz.ntmps19
  go_upto_region 1 with fail
  refine wp_world (fun W => At W w.heap.size #[.slice ca R.code.length cc, .slice ga R.gates.length gc, .string mem, .int .i64 R.dep] ∧ Gr w W) ⟨At.new w _ _, (Gr.refl _).alloc _⟩ ?_
  rintro W ⟨hQ, G⟩
  have hks : Hz (w.heap.size < W.heap.size) := Hz.mk hQ.1
  have d1 : W.cell? ⟨w.heap.size, 1, none⟩ = some (.slice ga R.gates.length gc) := hQ.2.1 1
  obtain ⟨gb, goff, rfl, hgb, hgr⟩ := (hP.gr G).gate g hgl
  have d5 : W.cell? ⟨gb, goff + g * 19 + 1, none⟩ = some (.int .i64 R.gates[g].a) := hgr 1 _ rfl
  obtain ⟨ga0, hga⟩ : ∃ z, R.gates[g].a = z := ⟨_, rfl⟩
  rw [hga] at d5 hn2
  replace hA := Hz.mk (hA.gr G)
  replace hg := Hz.mk hg
  replace hgr := Hz.mk hgr
  clear hP hga
  go_upto_region 6 with fail
  replace d1 := Hz.mk d1
  replace d5 := Hz.mk d5
  go_loopw [9, 10] (fun v x wr => ∃ (la : Option Addr) (lc j : Nat), v = .slice la j lc ∧ x = .int .i64 j ∧ j ≤ n ∧ Hz (wr.ownsRow W.heap.size 31 1 (.slice la j lc) j ((entL A j).map u64I)) ∧ Hz (Below W.heap.size W wr)) (fun _ x _ => n - (intOf x).toNat)
  case atStart => exact ⟨none, 0, 0, rfl, rfl, Nat.zero_le _, Hz.mk (World.ownsRow_nil _ _ _ _), Hz.mk (Below.refl _ _)⟩
  case round =>
    obtain ⟨la, lc, j, rfl, rfl, hj, hown, hB⟩ := hrel
    have e1 := (T.cell_of_block (hB.out.block w.heap.size hks.out) 1).trans d1.out
    have e5 := (T.cell_of_block (hB.out.block gb hgb) _).trans d5.out
    by_cases hlt : j < n
    · have q1 : (j : Int) < ga0 := by omega
      have q2 : (j : Int) < 20 := by omega
      by_cases hja : j < A.length
      · have hji : (j : Int) < (A.length : Int) := Int.ofNat_lt.2 hja
        obtain ⟨ab, ao, rfl, hab, hac⟩ := hA.out j hja
        have e7 := (T.cell_of_block (hB.out.block ab hab) _).trans hac
        have hvl : Hz (A.getD j (j : Int) = A[j]) := Hz.mk (by simp [hja])
        go_upto_region 11 with fail
        clear e7
        refine wp_region_lit ?_
        refine wpList_plain rfl (fun K hK => ?_)
        go_simp
        with_reducible refine hK _ _ ?_
        clear hK K
        try simp only [Act.put, List.setIfInBounds_toArray, List.set_cons_zero, List.set_cons_succ]
        refine wpList_plain rfl (fun K hK => ?_)
        go_simp
        with_reducible refine hK _ _ ?_
        clear hK K
        try simp only [Act.put, List.setIfInBounds_toArray, List.set_cons_zero, List.set_cons_succ]
        refine wpList_plain rfl (fun K hK => ?_)
        go_simp
        with_reducible refine hK _ _ ?_
        clear hK K
        try simp only [Act.put, List.setIfInBounds_toArray, List.set_cons_zero, List.set_cons_succ]
        have hX : At (wr.alloc (.cells #[.int .u64 (A[j]'hja)] 31)) wr.heap.size #[.int .u64 (A[j]'hja)] := At.new wr _ _
        have ho2 : (wr.alloc (.cells #[.int .u64 (A[j]'hja)] 31)).ownsRow W.heap.size 31 1 (.slice la j lc) j ((entL A j).map u64I) := hown.out.alloc _
        have hB2 : Hz (Below W.heap.size W (wr.alloc (.cells #[.int .u64 (A[j]'hja)] 31))) := Hz.mk (hB.out.alloc hB.out.size _)
        generalize hVV : wr.alloc (.cells #[.int .u64 (A[j]'hja)] 31) = V at *
        clear hVV
        generalize wr.heap.size = kX at *
        refine wpList_plain rfl (fun K hK => ?_)
        refine wp_append_z _ _ 26 31 (.int .u64 0) 1 8 rfl Tryz.underlying26 (by kernel_rfl) (by kernel_rfl) (by decide) (by decide) W.heap.size (.slice la j lc) j ((entL A j).map u64I) [.int .u64 (A[j]'hja)] (by rfl) ho2 kX (by rfl) hX rfl (by simp [Value.oneCell']) (by omega) hB2.out.size ?_
        intro g9 cap w9 k1 k2 k3
        have hB3 : Hz (Below W.heap.size W w9) := Hz.mk (hB2.out.trans ⟨k2.os, k2.tape, k2.output, k2.size, fun k hk => k2.block k (Nat.lt_of_lt_of_le hk hB2.out.size) (fun e => by have := (ho2.lt k e.symm).1; omega)⟩)
        have k4 : Hz (w9.ownsRow W.heap.size 31 1 (.slice (some ⟨g9, 0, none⟩) (j + 1) cap) (j + 1) ((entL A (j + 1)).map u64I)) := Hz.mk (by rw [entL_succ, List.map_append, hvl.out]; exact k1)
        clear k1 k2 k3 ho2 hX hB2 hB hown e1 e5
        refine hK _ _ ?_
        clear hK K
        try simp only [Act.put, List.setIfInBounds_toArray, List.set_cons_zero, List.set_cons_succ]
        go_wp2_with fail
        refine ⟨⟨_, _, j + 1, rfl, ?_, hlt, k4, hB3⟩, ?_⟩
        · first | rfl | (rw [show wrap64 ((j : Int) + 1) = ((j + 1 : Nat) : Int) by unfold wrap64; omega]) | go_num
        · first | (simp [intOf]; omega) | (rw [show wrap64 ((j : Int) + 1) = ((j + 1 : Nat) : Int) by unfold wrap64; omega]; simp [intOf]; omega)
      · have hji : ¬ (j : Int) < (A.length : Int) := fun q => hja (Int.ofNat_lt.1 q)
        have hwr : IntKind.u64.wrap (j : Int) = (j : Int) := by rw [IntKind.wrap_u64]; omega
        have hvl : Hz (A.getD j (j : Int) = (j : Int)) := Hz.mk (by simp [hja])
        go_upto_region 11 with fail
        refine wp_region_lit ?_
        refine wpList_plain rfl (fun K hK => ?_)
        go_simp
        with_reducible refine hK _ _ ?_
        clear hK K
        try simp only [Act.put, List.setIfInBounds_toArray, List.set_cons_zero, List.set_cons_succ]
        refine wpList_plain rfl (fun K hK => ?_)
        go_simp
        with_reducible refine hK _ _ ?_
        clear hK K
        try simp only [Act.put, List.setIfInBounds_toArray, List.set_cons_zero, List.set_cons_succ]
        refine wpList_plain rfl (fun K hK => ?_)
        go_simp
        with_reducible refine hK _ _ ?_
        clear hK K
        try simp only [Act.put, List.setIfInBounds_toArray, List.set_cons_zero, List.set_cons_succ]
        have hX : At (wr.alloc (.cells #[.int .u64 (j : Int)] 31)) wr.heap.size #[.int .u64 (j : Int)] := At.new wr _ _
        have ho2 : (wr.alloc (.cells #[.int .u64 (j : Int)] 31)).ownsRow W.heap.size 31 1 (.slice la j lc) j ((entL A j).map u64I) := hown.out.alloc _
        have hB2 : Hz (Below W.heap.size W (wr.alloc (.cells #[.int .u64 (j : Int)] 31))) := Hz.mk (hB.out.alloc hB.out.size _)
        generalize hVV : wr.alloc (.cells #[.int .u64 (j : Int)] 31) = V at *
        clear hVV
        generalize wr.heap.size = kX at *
        refine wpList_plain rfl (fun K hK => ?_)
        refine wp_append_z _ _ 26 31 (.int .u64 0) 1 8 rfl Tryz.underlying26 (by kernel_rfl) (by kernel_rfl) (by decide) (by decide) W.heap.size (.slice la j lc) j ((entL A j).map u64I) [.int .u64 (j : Int)] (by rfl) ho2 kX (by rfl) hX rfl (by simp [Value.oneCell']) (by omega) hB2.out.size ?_
        intro g9 cap w9 k1 k2 k3
        have hB3 : Hz (Below W.heap.size W w9) := Hz.mk (hB2.out.trans ⟨k2.os, k2.tape, k2.output, k2.size, fun k hk => k2.block k (Nat.lt_of_lt_of_le hk hB2.out.size) (fun e => by have := (ho2.lt k e.symm).1; omega)⟩)
        have k4 : Hz (w9.ownsRow W.heap.size 31 1 (.slice (some ⟨g9, 0, none⟩) (j + 1) cap) (j + 1) ((entL A (j + 1)).map u64I)) := Hz.mk (by rw [entL_succ, List.map_append, hvl.out]; exact k1)
        clear k1 k2 k3 ho2 hX hB2 hB hown e1 e5
        refine hK _ _ ?_
        clear hK K
        try simp only [Act.put, List.setIfInBounds_toArray, List.set_cons_zero, List.set_cons_succ]
        go_wp2_with fail
        refine ⟨⟨_, _, j + 1, rfl, ?_, hlt, k4, hB3⟩, ?_⟩
        · first | rfl | (rw [show wrap64 ((j : Int) + 1) = ((j + 1 : Nat) : Int) by unfold wrap64; omega]) | go_num
        · first | (simp [intOf]; omega) | (rw [show wrap64 ((j : Int) + 1) = ((j + 1 : Nat) : Int) by unfold wrap64; omega]; simp [intOf]; omega)
    · obtain rfl : j = n := by omega
      have hres := Hz.mk (And.intro (own_monoZ hown.out G.below.size) ((G.below.trans (hB.out.mono G.below.size))))
      by_cases q1 : (j : Int) < ga0
      · have q2 : ¬ (j : Int) < 20 := by omega
        go_wp2_with fail
        go_ret2
        exact ⟨_, rfl, hres.out⟩
      · go_wp2_with fail
        go_ret2
        exact ⟨_, rfl, hres.out⟩
end Z
end Go.Proofs.YtbichnngepjpnaaGreat
