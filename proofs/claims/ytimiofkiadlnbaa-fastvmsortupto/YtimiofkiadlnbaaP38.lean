import Derived.Test.YtimiofkiadlnbaaP37
import Derived.Test.YtimiofkiadlnbaaP23
/-
  Stage 13, fastvm: Step and Memory.
-/
namespace Go.Proofs.Ytimiofkiadlnbaa
namespace Z
open Go.RowKit
open T (Sep Ob Kp Mf FlIn boxOb)

def snV (g p d : Int) (r : Nat → Int) : List Value := .int .i64 g :: .int .i64 p :: .int .i64 d :: regs r
theorem snV_len (g p d : Int) (r : Nat → Int) : (snV g p d r).length = 19 := by simp [snV, regs_len]
theorem snV_one (g p d : Int) (r : Nat → Int) : (snV g p d r).toArray.all (fun x => x.oneCell') = true := by
  rw [Array.all_eq_true_iff_forall_mem]
  intro u hu
  simp only [List.mem_toArray, snV, List.mem_cons] at hu
  rcases hu with rfl | rfl | rfl | hu
  · rfl
  · rfl
  · rfl
  · exact regs_one r u hu
theorem MIn.snap {B : Nat} {W : World} {a : Nat} {P : Pr} {s : Fm} {l : List Ob} (h : MIn B W a P s l) : ∃ sa sc, ∀ V, Gr W V → V.cell? ⟨a, 4, none⟩ = some (.int .i64 s.g) ∧ V.cell? ⟨a, 5, none⟩ = some (.int .i64 s.p) ∧ V.cell? ⟨a, 22, none⟩ = some (.slice sa s.st.length sc) ∧ V.rangeAt a 6 (regs s.r) := by
  obtain ⟨⟨q, h1⟩, le⟩ := h
  have hb := h1.ins (bxOb a (bxOf P s q)) (by simp [obs])
  have hO := h1.ins (stOb B q.sv s.st) (by simp [obs])
  obtain ⟨sa, sc, e⟩ : ∃ sa sc, q.sv = .slice sa s.st.length sc := by
    rcases hO.2 with ⟨e1, e2⟩ | ⟨g, cap, cur, e1, _⟩
    · exact ⟨none, 0, by rw [e1, e2]⟩
    · exact ⟨_, _, e1⟩
  refine ⟨sa, sc, fun V g => ?_⟩
  have hk := fun j => T.cell_of_block (g.below.block a hb.1) j
  refine ⟨(hk _).trans (hb.at_ 4 (by omega)), (hk _).trans (hb.at_ 5 (by omega)), ?_, fun j v qv => ?_⟩
  · rw [← e]
    exact (hk _).trans (hb.at_ 22 (by omega))
  · have hj : j < 16 := by have := (List.getElem?_eq_some_iff.1 qv).1; rwa [regs_len] at this
    rw [regs_at s.r j hj] at qv
    refine (hk _).trans ((hb.at_ (6 + j) (by omega)).trans ?_)
    rw [Fx.reg _ j hj]
    exact qv
end Z
end Go.Proofs.Ytimiofkiadlnbaa


/-
  Stage 13, fastvm: raw instructions and gates.
-/
namespace Go.Proofs.Ytimiofkiadlnbaa
namespace Z
open Go.RowKit
open T (Sep Ob Kp Mf FlIn boxOb)

/-- An instruction as it comes in. -/
structure Ri where
  op : Int
  a : Int
  b : Int
  c : Int
  i : Int
def Ri.vals (i : Ri) : List Value := [.int .u8 i.op, .int .i64 i.a, .int .i64 i.b, .int .i64 i.c, .int .u64 i.i]
/-- What a value of its type is. -/
structure Ri.Is (i : Ri) : Prop where
  op : 0 ≤ i.op ∧ i.op < 256
  im : 0 ≤ i.i ∧ i.i < 18446744073709551616
def Ri.Fl (i : Ri) : Prop := (0 ≤ i.a ∧ i.a ≤ 15) ∧ (0 ≤ i.b ∧ i.b ≤ 15) ∧ 0 ≤ i.c ∧ i.c ≤ if 70 ≤ i.op then 255 else 15
def Ri.Th (i : Ri) (n k : Nat) : Prop := (20 ≤ i.op ∧ i.op ≤ 24 → i.i < n) ∧ (i.op = 31 → i.i < k)
structure Ri.Ok (i : Ri) (n k : Nat) : Prop where
  op : Named i.op
  fl : i.Fl
  th : i.Th n k
/-- An answer tells whether something is so. -/
def Says (p : Prop) (x : Ending) : Prop := ∃ b : Bool, x = .returned (.bool b) ∧ (b = true ↔ p)
def Ri.fi (i : Ri) : Fi := ⟨i.op, i.a.toNat, i.b.toNat, i.c.toNat, i.i⟩
theorem Ri.Ok.fi {i : Ri} {n k : Nat} (h : i.Ok n k) (hi : i.Is) : i.fi.Ok n k ∧ i.fi.vals = i.vals := by
  obtain ⟨h1, h2, h3⟩ := h
  obtain ⟨ha, hb, hc0, hc⟩ := h2
  refine ⟨⟨h1, ?_, ?_, ?_, hi.im, h3.1, h3.2⟩, ?_⟩
  · show i.a.toNat < 16
    omega
  · show i.b.toNat < 16
    omega
  · show i.c.toNat < 16 ∨ 70 ≤ i.op ∧ i.c.toNat ≤ 255
    split at hc <;> omega
  · show [Value.int .u8 i.op, .int .i64 (i.a.toNat : Int), .int .i64 (i.b.toNat : Int), .int .i64 (i.c.toNat : Int), .int .u64 i.i] = _
    rw [Int.toNat_of_nonneg ha.1, Int.toNat_of_nonneg hb.1, Int.toNat_of_nonneg hc0]
    rfl
set_option maxRecDepth 100000 in
set_option maxHeartbeats 4000000 in
theorem isWithin_no (n lo hi : Int) (w : World) (h : ¬ (lo ≤ n ∧ n ≤ hi)) :
    Calls Try.prog 21 #[.int .i64 n, .int .i64 lo, .int .i64 hi] w fun x w' => x = .returned (.bool false) ∧ w' = w := by
  by_cases h1 : lo ≤ n
  · have h2 : ¬ n ≤ hi := fun q => h ⟨h1, q⟩
    clear h
    go_enter Try.func21, Try.ntmps21
    go_wp2_with fail
    go_ret
    exact ⟨rfl, rfl⟩
  · clear h
    go_enter Try.func21, Try.ntmps21
    go_wp2_with fail
    go_ret
    exact ⟨rfl, rfl⟩
set_option maxRecDepth 100000 in
set_option maxHeartbeats 4000000 in
theorem isNamed_no (op : Int) (w : World) (h : 0 ≤ op ∧ op < 256) (hn : ¬ Named op) :
    Calls Try.prog 28 #[.int .u8 op] w fun x w' => x = .returned (.bool false) ∧ w' = w := by
  have hc : (14 ≤ op ∧ op ≤ 19) ∨ (25 ≤ op ∧ op ≤ 26) ∨ (33 ≤ op ∧ op ≤ 59) ∨ (66 ≤ op ∧ op ≤ 69) ∨ (73 ≤ op ∧ op ≤ 255) := by unfold Named at hn; omega
  clear hn h
  rcases hc with hc | hc | hc | hc | hc
  · skip
    have n13 : ¬ op ≤ 13 := by omega
    have y24 : op ≤ 24 := by omega
    have l20 : ¬ 20 ≤ op := by omega
    clear hc
    go_enter Try.func28, Try.ntmps28
    go_wp2_with fail
    go_ret
    exact ⟨rfl, rfl⟩
  · skip
    have n13 : ¬ op ≤ 13 := by omega
    have n24 : ¬ op ≤ 24 := by omega
    have y32 : op ≤ 32 := by omega
    have l27 : ¬ 27 ≤ op := by omega
    clear hc
    go_enter Try.func28, Try.ntmps28
    go_wp2_with fail
    go_ret
    exact ⟨rfl, rfl⟩
  · skip
    have n13 : ¬ op ≤ 13 := by omega
    have n24 : ¬ op ≤ 24 := by omega
    have n32 : ¬ op ≤ 32 := by omega
    have y65 : op ≤ 65 := by omega
    have l60 : ¬ 60 ≤ op := by omega
    clear hc
    go_enter Try.func28, Try.ntmps28
    go_wp2_with fail
    go_ret
    exact ⟨rfl, rfl⟩
  · skip
    have n13 : ¬ op ≤ 13 := by omega
    have n24 : ¬ op ≤ 24 := by omega
    have n32 : ¬ op ≤ 32 := by omega
    have n65 : ¬ op ≤ 65 := by omega
    have l70 : ¬ 70 ≤ op := by omega
    clear hc
    go_enter Try.func28, Try.ntmps28
    go_wp2_with fail
    go_ret
    exact ⟨rfl, rfl⟩
  · skip
    have n13 : ¬ op ≤ 13 := by omega
    have n24 : ¬ op ≤ 24 := by omega
    have n32 : ¬ op ≤ 32 := by omega
    have n65 : ¬ op ≤ 65 := by omega
    have y70 : 70 ≤ op := by omega
    have n72 : ¬ op ≤ 72 := by omega
    clear hc
    go_enter Try.func28, Try.ntmps28
    go_wp2_with fail
    go_ret
    exact ⟨rfl, rfl⟩
set_option maxRecDepth 100000 in
set_option maxHeartbeats 4000000 in
theorem fields_any (i : Ri) (w : World) :
    Calls Try.prog 29 #[.agg #[.int .u8 i.op, .int .i64 i.a, .int .i64 i.b, .int .i64 i.c, .int .u64 i.i]] w fun x w' => Says i.Fl x ∧ Gr w w' := by
  by_cases h70 : 70 ≤ i.op
  · skip
    by_cases ha : 0 ≤ i.a ∧ i.a ≤ 15
    · by_cases hb : 0 ≤ i.b ∧ i.b ≤ 15
      · by_cases hc : 0 ≤ i.c ∧ i.c ≤ 255
        · skip
          go_enter Try.func29, Try.ntmps29
          go_wp2_with fail
          refine (isWithin_ok _ _ _ _ (by omega) (by omega)).mono ?_
          rintro r w1 ⟨rfl, e1⟩
          subst e1
          go_wp2_with fail
          refine (isWithin_ok _ _ _ _ (by omega) (by omega)).mono ?_
          rintro r w1 ⟨rfl, e1⟩
          subst e1
          go_wp2_with fail
          refine (isWithin_ok _ _ _ _ (by omega) (by omega)).mono ?_
          rintro r w1 ⟨rfl, e1⟩
          subst e1
          go_wp2_with fail
          go_ret
          refine ⟨⟨true, rfl, ?_⟩, (Gr.refl w).alloc _⟩
          unfold Ri.Fl
          rw [if_pos h70]
          exact iff_of_true rfl ⟨ha, hb, hc⟩
        · skip
          go_enter Try.func29, Try.ntmps29
          go_wp2_with fail
          refine (isWithin_ok _ _ _ _ (by omega) (by omega)).mono ?_
          rintro r w1 ⟨rfl, e1⟩
          subst e1
          go_wp2_with fail
          refine (isWithin_ok _ _ _ _ (by omega) (by omega)).mono ?_
          rintro r w1 ⟨rfl, e1⟩
          subst e1
          go_wp2_with fail
          refine (isWithin_no _ _ _ _ (by omega)).mono ?_
          rintro r w1 ⟨rfl, e1⟩
          subst e1
          go_wp2_with fail
          go_ret
          refine ⟨⟨false, rfl, ?_⟩, (Gr.refl w).alloc _⟩
          unfold Ri.Fl
          rw [if_pos h70]
          refine iff_of_false (by decide) (fun q => ?_)
          exact absurd q.2.2 hc
      · skip
        go_enter Try.func29, Try.ntmps29
        go_wp2_with fail
        refine (isWithin_ok _ _ _ _ (by omega) (by omega)).mono ?_
        rintro r w1 ⟨rfl, e1⟩
        subst e1
        go_wp2_with fail
        refine (isWithin_no _ _ _ _ (by omega)).mono ?_
        rintro r w1 ⟨rfl, e1⟩
        subst e1
        go_wp2_with fail
        go_ret
        refine ⟨⟨false, rfl, ?_⟩, (Gr.refl w).alloc _⟩
        unfold Ri.Fl
        rw [if_pos h70]
        refine iff_of_false (by decide) (fun q => ?_)
        exact absurd q.2.1 hb
    · skip
      go_enter Try.func29, Try.ntmps29
      go_wp2_with fail
      refine (isWithin_no _ _ _ _ (by omega)).mono ?_
      rintro r w1 ⟨rfl, e1⟩
      subst e1
      go_wp2_with fail
      go_ret
      refine ⟨⟨false, rfl, ?_⟩, (Gr.refl w).alloc _⟩
      unfold Ri.Fl
      rw [if_pos h70]
      refine iff_of_false (by decide) (fun q => ?_)
      exact absurd q.1 ha
  · skip
    by_cases ha : 0 ≤ i.a ∧ i.a ≤ 15
    · by_cases hb : 0 ≤ i.b ∧ i.b ≤ 15
      · by_cases hc : 0 ≤ i.c ∧ i.c ≤ 15
        · skip
          go_enter Try.func29, Try.ntmps29
          go_wp2_with fail
          refine (isWithin_ok _ _ _ _ (by omega) (by omega)).mono ?_
          rintro r w1 ⟨rfl, e1⟩
          subst e1
          go_wp2_with fail
          refine (isWithin_ok _ _ _ _ (by omega) (by omega)).mono ?_
          rintro r w1 ⟨rfl, e1⟩
          subst e1
          go_wp2_with fail
          refine (isWithin_ok _ _ _ _ (by omega) (by omega)).mono ?_
          rintro r w1 ⟨rfl, e1⟩
          subst e1
          go_wp2_with fail
          go_ret
          refine ⟨⟨true, rfl, ?_⟩, (Gr.refl w).alloc _⟩
          unfold Ri.Fl
          rw [if_neg (show ¬ 70 ≤ i.op by omega)]
          exact iff_of_true rfl ⟨ha, hb, hc⟩
        · skip
          go_enter Try.func29, Try.ntmps29
          go_wp2_with fail
          refine (isWithin_ok _ _ _ _ (by omega) (by omega)).mono ?_
          rintro r w1 ⟨rfl, e1⟩
          subst e1
          go_wp2_with fail
          refine (isWithin_ok _ _ _ _ (by omega) (by omega)).mono ?_
          rintro r w1 ⟨rfl, e1⟩
          subst e1
          go_wp2_with fail
          refine (isWithin_no _ _ _ _ (by omega)).mono ?_
          rintro r w1 ⟨rfl, e1⟩
          subst e1
          go_wp2_with fail
          go_ret
          refine ⟨⟨false, rfl, ?_⟩, (Gr.refl w).alloc _⟩
          unfold Ri.Fl
          rw [if_neg (show ¬ 70 ≤ i.op by omega)]
          refine iff_of_false (by decide) (fun q => ?_)
          exact absurd q.2.2 hc
      · skip
        go_enter Try.func29, Try.ntmps29
        go_wp2_with fail
        refine (isWithin_ok _ _ _ _ (by omega) (by omega)).mono ?_
        rintro r w1 ⟨rfl, e1⟩
        subst e1
        go_wp2_with fail
        refine (isWithin_no _ _ _ _ (by omega)).mono ?_
        rintro r w1 ⟨rfl, e1⟩
        subst e1
        go_wp2_with fail
        go_ret
        refine ⟨⟨false, rfl, ?_⟩, (Gr.refl w).alloc _⟩
        unfold Ri.Fl
        rw [if_neg (show ¬ 70 ≤ i.op by omega)]
        refine iff_of_false (by decide) (fun q => ?_)
        exact absurd q.2.1 hb
    · skip
      go_enter Try.func29, Try.ntmps29
      go_wp2_with fail
      refine (isWithin_no _ _ _ _ (by omega)).mono ?_
      rintro r w1 ⟨rfl, e1⟩
      subst e1
      go_wp2_with fail
      go_ret
      refine ⟨⟨false, rfl, ?_⟩, (Gr.refl w).alloc _⟩
      unfold Ri.Fl
      rw [if_neg (show ¬ 70 ≤ i.op by omega)]
      refine iff_of_false (by decide) (fun q => ?_)
      exact absurd q.1 ha
set_option maxRecDepth 100000 in
set_option maxHeartbeats 4000000 in
theorem there_any (i : Ri) (n k : Nat) (w : World) (hl : n ≤ 1000 ∧ k ≤ 1000) :
    Calls Try.prog 30 #[.agg #[.int .u8 i.op, .int .i64 i.a, .int .i64 i.b, .int .i64 i.c, .int .u64 i.i], .int .i64 n, .int .i64 k] w fun x w' => Says (i.Th n k) x ∧ Gr w w' := by
  obtain ⟨op, ia, ib, ic, im⟩ := i
  dsimp only at *
  have hn : IntKind.u64.wrap (n : Int) = (n : Int) := by simp [IntKind.wrap, IntKind.bits, IntKind.signed]; omega
  have hk : IntKind.u64.wrap (k : Int) = (k : Int) := by simp [IntKind.wrap, IntKind.bits, IntKind.signed]; omega
  replace hl := Hz.mk hl
  by_cases e20 : op = 20
  · subst e20
    by_cases y : im < (n : Int)
    · have z : Hz (Says (Ri.Th ⟨20, ia, ib, ic, im⟩ n k) (.returned (.bool true))) := Hz.mk ⟨true, rfl, iff_of_true rfl (by unfold Ri.Th; dsimp only; omega)⟩
      go_enter Try.func30, Try.ntmps30
      go_wp2_with fail
      go_ret
      exact ⟨z.out, (Gr.refl w).alloc _⟩
    · have z : Hz (Says (Ri.Th ⟨20, ia, ib, ic, im⟩ n k) (.returned (.bool false))) := Hz.mk ⟨false, rfl, iff_of_false (by decide) (by unfold Ri.Th; dsimp only; omega)⟩
      go_enter Try.func30, Try.ntmps30
      go_wp2_with fail
      go_ret
      exact ⟨z.out, (Gr.refl w).alloc _⟩
  by_cases e21 : op = 21
  · subst e21
    by_cases y : im < (n : Int)
    · have z : Hz (Says (Ri.Th ⟨21, ia, ib, ic, im⟩ n k) (.returned (.bool true))) := Hz.mk ⟨true, rfl, iff_of_true rfl (by unfold Ri.Th; dsimp only; omega)⟩
      go_enter Try.func30, Try.ntmps30
      go_wp2_with fail
      go_ret
      exact ⟨z.out, (Gr.refl w).alloc _⟩
    · have z : Hz (Says (Ri.Th ⟨21, ia, ib, ic, im⟩ n k) (.returned (.bool false))) := Hz.mk ⟨false, rfl, iff_of_false (by decide) (by unfold Ri.Th; dsimp only; omega)⟩
      go_enter Try.func30, Try.ntmps30
      go_wp2_with fail
      go_ret
      exact ⟨z.out, (Gr.refl w).alloc _⟩
  by_cases e22 : op = 22
  · subst e22
    by_cases y : im < (n : Int)
    · have z : Hz (Says (Ri.Th ⟨22, ia, ib, ic, im⟩ n k) (.returned (.bool true))) := Hz.mk ⟨true, rfl, iff_of_true rfl (by unfold Ri.Th; dsimp only; omega)⟩
      go_enter Try.func30, Try.ntmps30
      go_wp2_with fail
      go_ret
      exact ⟨z.out, (Gr.refl w).alloc _⟩
    · have z : Hz (Says (Ri.Th ⟨22, ia, ib, ic, im⟩ n k) (.returned (.bool false))) := Hz.mk ⟨false, rfl, iff_of_false (by decide) (by unfold Ri.Th; dsimp only; omega)⟩
      go_enter Try.func30, Try.ntmps30
      go_wp2_with fail
      go_ret
      exact ⟨z.out, (Gr.refl w).alloc _⟩
  by_cases e23 : op = 23
  · subst e23
    by_cases y : im < (n : Int)
    · have z : Hz (Says (Ri.Th ⟨23, ia, ib, ic, im⟩ n k) (.returned (.bool true))) := Hz.mk ⟨true, rfl, iff_of_true rfl (by unfold Ri.Th; dsimp only; omega)⟩
      go_enter Try.func30, Try.ntmps30
      go_wp2_with fail
      go_ret
      exact ⟨z.out, (Gr.refl w).alloc _⟩
    · have z : Hz (Says (Ri.Th ⟨23, ia, ib, ic, im⟩ n k) (.returned (.bool false))) := Hz.mk ⟨false, rfl, iff_of_false (by decide) (by unfold Ri.Th; dsimp only; omega)⟩
      go_enter Try.func30, Try.ntmps30
      go_wp2_with fail
      go_ret
      exact ⟨z.out, (Gr.refl w).alloc _⟩
  by_cases e24 : op = 24
  · subst e24
    by_cases y : im < (n : Int)
    · have z : Hz (Says (Ri.Th ⟨24, ia, ib, ic, im⟩ n k) (.returned (.bool true))) := Hz.mk ⟨true, rfl, iff_of_true rfl (by unfold Ri.Th; dsimp only; omega)⟩
      go_enter Try.func30, Try.ntmps30
      go_wp2_with fail
      go_ret
      exact ⟨z.out, (Gr.refl w).alloc _⟩
    · have z : Hz (Says (Ri.Th ⟨24, ia, ib, ic, im⟩ n k) (.returned (.bool false))) := Hz.mk ⟨false, rfl, iff_of_false (by decide) (by unfold Ri.Th; dsimp only; omega)⟩
      go_enter Try.func30, Try.ntmps30
      go_wp2_with fail
      go_ret
      exact ⟨z.out, (Gr.refl w).alloc _⟩
  by_cases e31 : op = 31
  · subst e31
    by_cases y : im < (k : Int)
    · have z : Hz (Says (Ri.Th ⟨31, ia, ib, ic, im⟩ n k) (.returned (.bool true))) := Hz.mk ⟨true, rfl, iff_of_true rfl (by unfold Ri.Th; dsimp only; omega)⟩
      go_enter Try.func30, Try.ntmps30
      go_wp2_with fail
      go_ret
      exact ⟨z.out, (Gr.refl w).alloc _⟩
    · have z : Hz (Says (Ri.Th ⟨31, ia, ib, ic, im⟩ n k) (.returned (.bool false))) := Hz.mk ⟨false, rfl, iff_of_false (by decide) (by unfold Ri.Th; dsimp only; omega)⟩
      go_enter Try.func30, Try.ntmps30
      go_wp2_with fail
      go_ret
      exact ⟨z.out, (Gr.refl w).alloc _⟩
  have z : Hz (Says (Ri.Th ⟨op, ia, ib, ic, im⟩ n k) (.returned (.bool true))) := Hz.mk ⟨true, rfl, iff_of_true rfl (by unfold Ri.Th; dsimp only; omega)⟩
  have f20 : (op == 20) = false := by simpa using e20
  have f21 : (op == 21) = false := by simpa using e21
  have f22 : (op == 22) = false := by simpa using e22
  have f23 : (op == 23) = false := by simpa using e23
  have f24 : (op == 24) = false := by simpa using e24
  have f31 : (op == 31) = false := by simpa using e31
  clear e20 e21 e22 e23 e24 e31
  go_enter Try.func30, Try.ntmps30
  go_wp2_with fail
  go_ret
  exact ⟨z.out, (Gr.refl w).alloc _⟩
end Z
end Go.Proofs.Ytimiofkiadlnbaa
