import Derived.Test.YtlmgnfoopimmlaaP38
import Derived.Test.YtlmgnfoopimmlaaP39
import Derived.Test.YtlmgnfoopimmlaaP26
/-
  Stage 13, fastvm: lists that are the same.
-/
namespace Go.Proofs.Ytlmgnfoopimmlaa
namespace Z
open Go.RowKit
open T (Sep Ob Kp Mf FlIn boxOb)

/-- Numbers that lie in a row. -/
def WIn (w : World) (a : Option Addr) (L : List Int) : Prop := ∀ i (h : i < L.length), ∃ b off : Nat, a = some ⟨b, off, none⟩ ∧ b < w.heap.size ∧ w.cell? ⟨b, off + i, none⟩ = some (.int .u64 L[i])
theorem WIn.gr {w W : World} {a : Option Addr} {L : List Int} (h : WIn w a L) (g : Gr w W) : WIn W a L := fun i hi => by
  obtain ⟨b, off, e1, e2, e3⟩ := h i hi
  exact ⟨b, off, e1, Nat.lt_of_lt_of_le e2 g.below.size, (T.cell_of_block (g.below.block b e2) _).trans e3⟩
end Z
end Go.Proofs.Ytlmgnfoopimmlaa


/-
  Stage 13, fastvm: where a raw program begins.
-/
namespace Go.Proofs.Ytlmgnfoopimmlaa
namespace Z
open Go.RowKit
open T (Sep Ob Kp Mf FlIn boxOb)

set_option maxRecDepth 100000 in
set_option maxHeartbeats 4000000 in
theorem entry_none (R : Rp) (ca ga : Option Addr) (cc gc : Nat) (mem : ByteArray) (gate : Int) (v : Value) (w : World) (h : R.gates.length = 0 ∨ gate < 0) :
    Calls Try.prog 13 #[.agg #[.slice ca R.code.length cc, .slice ga R.gates.length gc, .string mem, .int .i64 R.dep], .int .i64 gate, v] w fun x w' => x = .returned (.tuple #[.int .i64 gate, v]) ∧ Gr w w' := by
  go_enter Try.func13, Try.ntmps13
  go_upto_region 1 with fail
  refine wp_world (fun W => At W w.heap.size #[.slice ca R.code.length cc, .slice ga R.gates.length gc, .string mem, .int .i64 R.dep] ∧ Gr w W) ⟨At.new w _ _, (Gr.refl _).alloc _⟩ ?_
  rintro W ⟨hQ, G⟩
  have hks : Hz (w.heap.size < W.heap.size) := Hz.mk hQ.1
  have d1 : W.cell? ⟨w.heap.size, 1, none⟩ = some (.slice ga R.gates.length gc) := hQ.2.1 1
  generalize w.heap.size = kp at *
  by_cases h0 : R.gates.length = 0
  · have hz : ((R.gates.length : Int) == 0) = true := by simp [h0]
    clear h h0
    go_wp2_with fail
    go_ret2
    exact ⟨rfl, G⟩
  · have hz : ((R.gates.length : Int) == 0) = false := beq_false_of_ne (by omega)
    have hg : gate < 0 := by
      rcases h with q | q
      · exact absurd q h0
      · exact q
    clear h h0
    go_wp2_with fail
    go_ret2
    exact ⟨rfl, G⟩
theorem own_monoZ {w : World} {lo lo2 e s n : Nat} {v : Value} {xs : List Value} (h : w.ownsRow lo e s v n xs) (hl : lo2 ≤ lo) : w.ownsRow lo2 e s v n xs := by
  refine ⟨h.1, ?_⟩
  rcases h.2 with q | ⟨g, cap, cur, e1, e2, e3⟩
  · exact .inl q
  · exact .inr ⟨g, cap, cur, e1, Nat.le_trans hl e2, e3⟩
def entL (A : List Int) (n : Nat) : List Int := (List.range n).map fun i => A.getD i (i : Int)
theorem entL_len (A : List Int) (n : Nat) : (entL A n).length = n := by simp [entL]
theorem entL_succ (A : List Int) (n : Nat) : entL A (n + 1) = entL A n ++ [A.getD n (n : Int)] := by simp [entL, List.range_succ]
set_option maxRecDepth 100000 in
set_option maxHeartbeats 4000000 in
theorem entry_any (R : Rp) (ca ga : Option Addr) (cc gc : Nat) (mem : ByteArray) (gate g : Nat) (A : List Int) (sa : Option Addr) (sc : Nat) (w : World) (hP : RpIn w ca ga R) (hA : WIn w sa A) (h0 : 0 < R.gates.length) (hg : g = gate % R.gates.length) (hgl : g < R.gates.length) (n : Nat) (hn : n ≤ 20) (hn2 : (n : Int) = R.gates[g].a ∨ (R.gates[g].a < 0 ∧ n = 0) ∨ (20 < R.gates[g].a ∧ n = 20)) :
    Calls Try.prog 13 #[.agg #[.slice ca R.code.length cc, .slice ga R.gates.length gc, .string mem, .int .i64 R.dep], .int .i64 gate, .slice sa A.length sc] w fun x w' => ∃ v, x = .returned (.tuple #[.int .i64 g, v]) ∧ w'.ownsRow w.heap.size 31 1 v n ((entL A n).map u64I) ∧ Below w.heap.size w w' := by
  have hz : ((R.gates.length : Int) == 0) = false := beq_false_of_ne (by omega)
  have hrm : Int.tmod (gate : Int) (R.gates.length : Int) = (g : Int) := by rw [hg]; rfl
  have hgi : (g : Int) < (R.gates.length : Int) := Int.ofNat_lt.2 hgl
  go_enter Try.func13, Try.ntmps13
  go_upto_region 1 with fail
  refine wp_world (fun W => At W w.heap.size #[.slice ca R.code.length cc, .slice ga R.gates.length gc, .string mem, .int .i64 R.dep] ∧ Gr w W) ⟨At.new w _ _, (Gr.refl _).alloc _⟩ ?_
  rintro W ⟨hQ, G⟩
  have hks : Hz (w.heap.size < W.heap.size) := Hz.mk hQ.1
  have d1 : W.cell? ⟨w.heap.size, 1, none⟩ = some (.slice ga R.gates.length gc) := hQ.2.1 1
  obtain ⟨gb, goff, rfl, hgb, hgr⟩ := (hP.gr G).gate g hgl
  have d5 : W.cell? ⟨gb, goff + g * 19 + 1, none⟩ = some (.int .i64 R.gates[g].a) := hgr 1 _ rfl
  obtain ⟨ga0, hga⟩ : ∃ z, R.gates[g].a = z := ⟨_, rfl⟩
  rw [hga] at d5 hn2
  replace hA := Hz.mk (hA.gr G)
  replace hg := Hz.mk hg
  replace hgr := Hz.mk hgr
  clear hP hga
  go_upto_region 6 with fail
  replace d1 := Hz.mk d1
  replace d5 := Hz.mk d5
  go_loopw [9, 10] (fun v x wr => ∃ (la : Option Addr) (lc j : Nat), v = .slice la j lc ∧ x = .int .i64 j ∧ j ≤ n ∧ Hz (wr.ownsRow W.heap.size 31 1 (.slice la j lc) j ((entL A j).map u64I)) ∧ Hz (Below W.heap.size W wr)) (fun _ x _ => n - (intOf x).toNat)
  case atStart => exact ⟨none, 0, 0, rfl, rfl, Nat.zero_le _, Hz.mk (World.ownsRow_nil _ _ _ _), Hz.mk (Below.refl _ _)⟩
  case round =>
    obtain ⟨la, lc, j, rfl, rfl, hj, hown, hB⟩ := hrel
    have e1 := (T.cell_of_block (hB.out.block w.heap.size hks.out) 1).trans d1.out
    have e5 := (T.cell_of_block (hB.out.block gb hgb) _).trans d5.out
    by_cases hlt : j < n
    · have q1 : (j : Int) < ga0 := by omega
      have q2 : (j : Int) < 20 := by omega
      by_cases hja : j < A.length
      · have hji : (j : Int) < (A.length : Int) := Int.ofNat_lt.2 hja
        obtain ⟨ab, ao, rfl, hab, hac⟩ := hA.out j hja
        have e7 := (T.cell_of_block (hB.out.block ab hab) _).trans hac
        have hvl : Hz (A.getD j (j : Int) = A[j]) := Hz.mk (by simp [hja])
        go_upto_region 11 with fail
        clear e7
        refine wp_region_lit ?_
        refine wpList_plain rfl (fun K hK => ?_)
        go_simp
        with_reducible refine hK _ _ ?_
        clear hK K
        try simp only [Act.put, List.setIfInBounds_toArray, List.set_cons_zero, List.set_cons_succ]
        refine wpList_plain rfl (fun K hK => ?_)
        go_simp
        with_reducible refine hK _ _ ?_
        clear hK K
        try simp only [Act.put, List.setIfInBounds_toArray, List.set_cons_zero, List.set_cons_succ]
        refine wpList_plain rfl (fun K hK => ?_)
        go_simp
        with_reducible refine hK _ _ ?_
        clear hK K
        try simp only [Act.put, List.setIfInBounds_toArray, List.set_cons_zero, List.set_cons_succ]
        have hX : At (wr.alloc (.cells #[.int .u64 (A[j]'hja)] 31)) wr.heap.size #[.int .u64 (A[j]'hja)] := At.new wr _ _
        have ho2 : (wr.alloc (.cells #[.int .u64 (A[j]'hja)] 31)).ownsRow W.heap.size 31 1 (.slice la j lc) j ((entL A j).map u64I) := hown.out.alloc _
        have hB2 : Hz (Below W.heap.size W (wr.alloc (.cells #[.int .u64 (A[j]'hja)] 31))) := Hz.mk (hB.out.alloc hB.out.size _)
        generalize hVV : wr.alloc (.cells #[.int .u64 (A[j]'hja)] 31) = V at *
        clear hVV
        generalize wr.heap.size = kX at *
        refine wpList_plain rfl (fun K hK => ?_)
        refine wp_append_z _ _ 26 31 (.int .u64 0) 1 8 rfl Try.underlying26 (by kernel_rfl) (by kernel_rfl) (by decide) (by decide) W.heap.size (.slice la j lc) j ((entL A j).map u64I) [.int .u64 (A[j]'hja)] (by rfl) ho2 kX (by rfl) hX rfl (by simp [Value.oneCell']) (by omega) hB2.out.size ?_
        intro g9 cap w9 k1 k2 k3
        have hB3 : Hz (Below W.heap.size W w9) := Hz.mk (hB2.out.trans ⟨k2.os, k2.tape, k2.output, k2.size, fun k hk => k2.block k (Nat.lt_of_lt_of_le hk hB2.out.size) (fun e => by have := (ho2.lt k e.symm).1; omega)⟩)
        have k4 : Hz (w9.ownsRow W.heap.size 31 1 (.slice (some ⟨g9, 0, none⟩) (j + 1) cap) (j + 1) ((entL A (j + 1)).map u64I)) := Hz.mk (by rw [entL_succ, List.map_append, hvl.out]; exact k1)
        clear k1 k2 k3 ho2 hX hB2 hB hown e1 e5
        refine hK _ _ ?_
        clear hK K
        try simp only [Act.put, List.setIfInBounds_toArray, List.set_cons_zero, List.set_cons_succ]
        go_wp2_with fail
        refine ⟨⟨_, _, j + 1, rfl, ?_, hlt, k4, hB3⟩, ?_⟩
        · first | rfl | (rw [show wrap64 ((j : Int) + 1) = ((j + 1 : Nat) : Int) by unfold wrap64; omega]) | go_num
        · first | (simp [intOf]; omega) | (rw [show wrap64 ((j : Int) + 1) = ((j + 1 : Nat) : Int) by unfold wrap64; omega]; simp [intOf]; omega)
      · have hji : ¬ (j : Int) < (A.length : Int) := fun q => hja (Int.ofNat_lt.1 q)
        have hwr : IntKind.u64.wrap (j : Int) = (j : Int) := by rw [IntKind.wrap_u64]; omega
        have hvl : Hz (A.getD j (j : Int) = (j : Int)) := Hz.mk (by simp [hja])
        go_upto_region 11 with fail
        refine wp_region_lit ?_
        refine wpList_plain rfl (fun K hK => ?_)
        go_simp
        with_reducible refine hK _ _ ?_
        clear hK K
        try simp only [Act.put, List.setIfInBounds_toArray, List.set_cons_zero, List.set_cons_succ]
        refine wpList_plain rfl (fun K hK => ?_)
        go_simp
        with_reducible refine hK _ _ ?_
        clear hK K
        try simp only [Act.put, List.setIfInBounds_toArray, List.set_cons_zero, List.set_cons_succ]
        refine wpList_plain rfl (fun K hK => ?_)
        go_simp
        with_reducible refine hK _ _ ?_
        clear hK K
        try simp only [Act.put, List.setIfInBounds_toArray, List.set_cons_zero, List.set_cons_succ]
        have hX : At (wr.alloc (.cells #[.int .u64 (j : Int)] 31)) wr.heap.size #[.int .u64 (j : Int)] := At.new wr _ _
        have ho2 : (wr.alloc (.cells #[.int .u64 (j : Int)] 31)).ownsRow W.heap.size 31 1 (.slice la j lc) j ((entL A j).map u64I) := hown.out.alloc _
        have hB2 : Hz (Below W.heap.size W (wr.alloc (.cells #[.int .u64 (j : Int)] 31))) := Hz.mk (hB.out.alloc hB.out.size _)
        generalize hVV : wr.alloc (.cells #[.int .u64 (j : Int)] 31) = V at *
        clear hVV
        generalize wr.heap.size = kX at *
        refine wpList_plain rfl (fun K hK => ?_)
        refine wp_append_z _ _ 26 31 (.int .u64 0) 1 8 rfl Try.underlying26 (by kernel_rfl) (by kernel_rfl) (by decide) (by decide) W.heap.size (.slice la j lc) j ((entL A j).map u64I) [.int .u64 (j : Int)] (by rfl) ho2 kX (by rfl) hX rfl (by simp [Value.oneCell']) (by omega) hB2.out.size ?_
        intro g9 cap w9 k1 k2 k3
        have hB3 : Hz (Below W.heap.size W w9) := Hz.mk (hB2.out.trans ⟨k2.os, k2.tape, k2.output, k2.size, fun k hk => k2.block k (Nat.lt_of_lt_of_le hk hB2.out.size) (fun e => by have := (ho2.lt k e.symm).1; omega)⟩)
        have k4 : Hz (w9.ownsRow W.heap.size 31 1 (.slice (some ⟨g9, 0, none⟩) (j + 1) cap) (j + 1) ((entL A (j + 1)).map u64I)) := Hz.mk (by rw [entL_succ, List.map_append, hvl.out]; exact k1)
        clear k1 k2 k3 ho2 hX hB2 hB hown e1 e5
        refine hK _ _ ?_
        clear hK K
        try simp only [Act.put, List.setIfInBounds_toArray, List.set_cons_zero, List.set_cons_succ]
        go_wp2_with fail
        refine ⟨⟨_, _, j + 1, rfl, ?_, hlt, k4, hB3⟩, ?_⟩
        · first | rfl | (rw [show wrap64 ((j : Int) + 1) = ((j + 1 : Nat) : Int) by unfold wrap64; omega]) | go_num
        · first | (simp [intOf]; omega) | (rw [show wrap64 ((j : Int) + 1) = ((j + 1 : Nat) : Int) by unfold wrap64; omega]; simp [intOf]; omega)
    · obtain rfl : j = n := by omega
      have hres := Hz.mk (And.intro (own_monoZ hown.out G.below.size) ((G.below.trans (hB.out.mono G.below.size))))
      by_cases q1 : (j : Int) < ga0
      · have q2 : ¬ (j : Int) < 20 := by omega
        go_wp2_with fail
        go_ret2
        exact ⟨_, rfl, hres.out⟩
      · go_wp2_with fail
        go_ret2
        exact ⟨_, rfl, hres.out⟩
end Z
end Go.Proofs.Ytlmgnfoopimmlaa
