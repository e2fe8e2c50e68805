import Derived.Test.YtimiofkiadlnbaaP26
/-
  Stage 13, fastvm: what is touched.
-/
namespace Go.Proofs.Ytimiofkiadlnbaa
namespace Z
open Go.RowKit
open T (Sep Ob Kp Mf FlIn)

set_option maxRecDepth 100000 in
set_option maxHeartbeats 4000000 in
theorem touch_bad (B : Nat) (W : World) (a : Nat) (P : Pr) (s : Fm) (l : List Ob) (st : Bool) (ad n : Int) (h : MIn B W a P s l) (hn : 1 ≤ n ∧ n ≤ 16) (hq : 65536 - n < ad) :
    Calls Try.prog 83 #[.pointer (some ⟨a, 0, none⟩), .bool st, .int .u64 ad, .int .u64 n] W fun x w' => x = .returned (.bool false) ∧ MIn B w' a P { s with e := 7, v := 0, f := 5 } l ∧ Below B W w' := by
  have hf := Hz.mk (h.onBox (s' := { s with e := 7, v := 0, f := 5 }) ⟨rfl, rfl, rfl, rfl, rfl⟩ (fun q hb => fail_any a _ 5 W hb))
  have e1 : IntKind.u64.wrap (65536 - n) = 65536 - n := by simp [IntKind.wrap, IntKind.bits, IntKind.signed]; omega
  replace h := Hz.mk h
  replace hn := Hz.mk hn
  go_enter Try.func83, Try.ntmps83
  go_wp2_with fail
  refine hf.out.mono ?_
  rintro r V ⟨rfl, h1, h2⟩
  replace h1 := Hz.mk h1
  go_wp2_with fail
  go_ret
  exact ⟨rfl, h1.out, h2⟩
set_option maxRecDepth 100000 in
set_option maxHeartbeats 4000000 in
theorem touch_ok (B : Nat) (W : World) (a : Nat) (P : Pr) (s : Fm) (l : List Ob) (st : Bool) (ad n : Int) (h : MIn B W a P s l) (hn : 1 ≤ n ∧ n ≤ 16) (hq : ad ≤ 65536 - n) (hl : s.tc.length ≤ 1000000) :
    Calls Try.prog 83 #[.pointer (some ⟨a, 0, none⟩), .bool st, .int .u64 ad, .int .u64 n] W fun x w' => x = .returned (.bool true) ∧ MIn B w' a P { s with tc := s.tc ++ [⟨st, ad, n⟩] } l ∧ Below B W w' := by
  have hq2 : ¬ 65536 - n < ad := by omega
  have e1 : IntKind.u64.wrap (65536 - n) = 65536 - n := by simp [IntKind.wrap, IntKind.bits, IntKind.signed]; omega
  obtain ⟨⟨q, h1⟩, le⟩ := h
  have hb := h1.ins (bxOb a (bxOf P s q)) (by simp [obs])
  have hO : W.ownsRow B 49 3 q.tv s.tc.length (s.tc.flatMap Tc.vals) := h1.ins (tcOb B q.tv s.tc) (by simp [obs])
  obtain ⟨ta, tk, etv⟩ := own_slZ hO
  have c25 : W.cell? ⟨a, 25, none⟩ = some (.slice ta s.tc.length tk) := by rw [← etv]; exact hb.at_ 25 (by omega)
  have hfr : ∀ V, Below W.heap.size W V → ∀ {g : Nat}, V.frozen? ⟨a, 25, none⟩ = false := fun V k _ => (T.frozen_of_block (k.block a hb.lt) 25).trans (hb.fr 25)
  have hlt := hb.lt
  have hap : Hz (∀ V W2 g cap, Gr W V → W2.ownsRow B 49 3 (.slice (some ⟨g, 0, none⟩) (s.tc.length + 1) cap) (s.tc.length + 1) (s.tc.flatMap Tc.vals ++ [Value.bool st, .int .u64 ad, .int .u64 n]) → V.grownBy W2 (Value.slice ta s.tc.length tk).ownBlock → ((Value.slice ta s.tc.length tk).ownBlock = some g ∨ g = V.heap.size) → (∃ u, W2.cell? ⟨a, 25, none⟩ = some u) ∧ W2.frozen? ⟨a, 25, none⟩ = false ∧ MIn B (W2.setCell ⟨a, 25, none⟩ (.slice (some ⟨g, 0, none⟩) (s.tc.length + 1) cap)) a P { s with tc := s.tc ++ [⟨st, ad, n⟩] } l ∧ Below B W (W2.setCell ⟨a, 25, none⟩ (.slice (some ⟨g, 0, none⟩) (s.tc.length + 1) cap))) := Hz.mk (fun V W2 g cap g1 k1 k2 k3 => by
    rw [← etv] at k2 k3
    have r := MIn.app_tc ⟨st, ad, n⟩ (h1.gr g1.below) (Nat.le_trans le g1.below.size) k1 k2 k3
    have hbV := (h1.gr g1.below).ins (bxOb a (bxOf P s q)) (by simp [obs])
    have hd : q.tv.ownBlock ≠ some a := fun e => by
      have := (List.pairwise_cons.1 h1.dis).1 (tcOb B q.tv s.tc) (by simp) a rfl
      exact this e
    have hb2 := Bx.keep hbV (kp_grown k2) hd
    exact ⟨⟨_, hb2.at_ 25 (by omega)⟩, hb2.fr 25, r.1, (g1.below.mono le).trans r.2⟩)
  have hO2 : Hz (∀ V, Gr W V → V.ownsRow B 49 3 (.slice ta s.tc.length tk) s.tc.length (s.tc.flatMap Tc.vals)) := Hz.mk (fun V g => by rw [← etv]; exact own_keep hO (Kp.of_below (S := fun _ => False) g.below) (fun _ _ r => r))
  clear hfr etv hO hb h1
  replace hn := Hz.mk hn
  generalize s.tc.flatMap Tc.vals = xs at *
  go_enter Try.func83, Try.ntmps83
  go_upto_region 4 with fail
  refine wp_region_lit ?_
  refine wpList_plain rfl (fun K hK => ?_)
  go_simp
  with_reducible refine hK _ _ ?_
  clear hK K
  try simp only [Act.put, List.setIfInBounds_toArray, List.set_cons_zero, List.set_cons_succ]
  refine wpList_plain rfl (fun K hK => ?_)
  go_simp
  with_reducible refine hK _ _ ?_
  clear hK K
  try simp only [Act.put, List.setIfInBounds_toArray, List.set_cons_zero, List.set_cons_succ]
  refine wpList_plain rfl (fun K hK => ?_)
  go_simp
  with_reducible refine hK _ _ ?_
  clear hK K
  try simp only [Act.put, List.setIfInBounds_toArray, List.set_cons_zero, List.set_cons_succ]
  refine wpList_plain rfl (fun K hK => ?_)
  go_simp
  with_reducible refine hK _ _ ?_
  clear hK K
  try simp only [Act.put, List.setIfInBounds_toArray, List.set_cons_zero, List.set_cons_succ]
  refine wpList_plain rfl (fun K hK => ?_)
  go_simp
  with_reducible refine hK _ _ ?_
  clear hK K
  try simp only [Act.put, List.setIfInBounds_toArray, List.set_cons_zero, List.set_cons_succ]
  refine wpList_plain rfl (fun K hK => ?_)
  go_simp
  with_reducible refine hK _ _ ?_
  clear hK K
  try simp only [Act.put, List.setIfInBounds_toArray, List.set_cons_zero, List.set_cons_succ]
  refine wpList_plain rfl (fun K hK => ?_)
  go_simp
  with_reducible refine hK _ _ ?_
  clear hK K
  try simp only [Act.put, List.setIfInBounds_toArray, List.set_cons_zero, List.set_cons_succ]
  refine wpList_plain rfl (fun K hK => ?_)
  go_simp
  with_reducible refine hK _ _ ?_
  clear hK K
  try simp only [Act.put, List.setIfInBounds_toArray, List.set_cons_zero, List.set_cons_succ]
  refine wpList_plain rfl (fun K hK => ?_)
  go_simp
  with_reducible refine hK _ _ ?_
  clear hK K
  try simp only [Act.put, List.setIfInBounds_toArray, List.set_cons_zero, List.set_cons_succ]
  refine wpList_plain rfl (fun K hK => ?_)
  go_simp
  with_reducible refine hK _ _ ?_
  clear hK K
  try simp only [Act.put, List.setIfInBounds_toArray, List.set_cons_zero, List.set_cons_succ]
  have hX := At.new W #[Value.bool st, .int .u64 ad, .int .u64 n] 49
  have gX : Gr W (W.alloc (.cells #[Value.bool st, .int .u64 ad, .int .u64 n] 49)) := (Gr.refl W).alloc _
  generalize W.alloc (.cells #[Value.bool st, .int .u64 ad, .int .u64 n] 49) = V at *
  generalize W.heap.size = kX at *
  refine wpList_plain rfl (fun K hK => ?_)
  refine wp_append_z _ _ 46 49 (.agg #[.bool false, .int .u64 0, .int .u64 0]) 3 24 rfl Try.underlying46 (by kernel_rfl) (by kernel_rfl) (by decide) (by decide) B (.slice ta s.tc.length tk) s.tc.length xs [Value.bool st, .int .u64 ad, .int .u64 n] (by rfl) (hO2.out V gX) kX (by rfl) hX rfl (by simp [Value.oneCell']) hl (Nat.le_trans le (Nat.le_of_lt hX.1)) ?_
  intro g cap W2 k1 k2 k3
  obtain ⟨⟨u, cu⟩, fu, hM, hBe⟩ := hap.out V W2 g cap gX k1 k2 k3
  replace hM := Hz.mk hM
  clear hap hO2 k1 k2 k3
  have hlt2 := World.block_lt_of_cell? W2 _ cu
  with_reducible refine hK _ _ ?_
  clear hK K
  try simp only [Act.put, List.setIfInBounds_toArray, List.set_cons_zero, List.set_cons_succ]
  refine wpList_plain rfl (fun K hK => ?_)
  go_simp
  with_reducible refine hK _ _ ?_
  clear hK K
  try simp only [Act.put, List.setIfInBounds_toArray, List.set_cons_zero, List.set_cons_succ]
  refine wpList_plain rfl (fun K hK => ?_)
  go_simp
  with_reducible refine hK _ _ ?_
  clear hK K
  try simp only [Act.put, List.setIfInBounds_toArray, List.set_cons_zero, List.set_cons_succ]
  refine wpList_plain rfl (fun K hK => ?_)
  go_simp
  with_reducible refine hK _ _ ?_
  clear hK K
  try simp only [Act.put]
  go_wp2_with fail
  go_ret
  exact ⟨rfl, hM.out, hBe⟩
end Z
end Go.Proofs.Ytimiofkiadlnbaa


/-
  Stage 13, fastvm: what lies beside a machine.
-/
namespace Go.Proofs.Ytimiofkiadlnbaa
namespace Z
open Go.RowKit
open T (Sep Ob Kp Mf FlIn boxOb)

theorem sep_perm {B : Nat} {W : World} {l l' : List Ob} (h : Sep B W l) (p : l.Perm l') : Sep B W l' :=
  ⟨fun o ho => h.ins o (p.mem_iff.2 ho), (List.Perm.pairwise_iff (fun q k hb ha => q k ha hb) p).1 h.dis, fun o ho => h.ge o (p.mem_iff.2 ho)⟩
theorem sep_tail {B : Nat} {W : World} {o : Ob} {l : List Ob} (h : Sep B W (o :: l)) : Sep B W l :=
  ⟨fun p hp => h.ins p (List.mem_cons_of_mem _ hp), (List.pairwise_cons.1 h.dis).2, fun p hp => h.ge p (List.mem_cons_of_mem _ hp)⟩
section
variable {B : Nat} {W W' : World} {a : Nat} {P : Pr} {s : Fm} {l : List Ob}
theorem MIn.add (h : MIn B W a P s l) (o : Ob) (hi : o.In W') (hn : ∀ k, o.S k → W.heap.size ≤ k) (hb : Below W.heap.size W W') : MIn B W' a P s (o :: l) := by
  obtain ⟨⟨q, h1⟩, le⟩ := h
  exact ⟨⟨q, sep_perm (h1.add o hi hn hb le) List.perm_middle.symm⟩, Nat.le_trans le hb.size⟩
theorem MIn.drop {o : Ob} (h : MIn B W a P s (o :: l)) : MIn B W a P s l := by
  obtain ⟨⟨q, h1⟩, le⟩ := h
  exact ⟨⟨q, sep_tail (sep_perm h1 List.perm_middle)⟩, le⟩
theorem MIn.swap {o p : Ob} (h : MIn B W a P s (o :: p :: l)) : MIn B W a P s (p :: o :: l) := by
  obtain ⟨⟨q, h1⟩, le⟩ := h
  exact ⟨⟨q, sep_perm h1 (List.Perm.append_left _ (.swap _ _ _))⟩, le⟩
theorem MIn.new (h : MIn B W a P s l) (cs : Array Value) (t : TypeId) : MIn B (W.alloc (.cells cs t)) a P s (boxOb W.heap.size cs :: l) ∧ Below B W (W.alloc (.cells cs t)) :=
  ⟨h.add (boxOb W.heap.size cs) (At.new W cs t) (fun k q => by have : k = W.heap.size := q; omega) ((Below.refl _ W).alloc (Nat.le_refl _) _), ((Below.refl _ W).alloc (Nat.le_refl _) _).mono h.le⟩
/-- Another thing beside it has changed. -/
theorem MIn.side {o o' : Ob} (h : MIn B W a P s (o :: l)) (hi : o'.In W') (hk : Kp o.S W W') (hn : ∀ k, o'.S k → o.S k ∨ W.heap.size ≤ k) : MIn B W' a P s (o' :: l) ∧ Below B W W' := by
  obtain ⟨⟨q, h1⟩, le⟩ := h
  exact ⟨⟨⟨q, sep_change (l1 := obs B a P s q) (o := o) (o' := o') (l2 := l) h1 hi hk hn le⟩, Nat.le_trans le hk.size⟩, sep_below (l1 := obs B a P s q) (o := o) (l2 := l) h1 hk le⟩
end
end Z
end Go.Proofs.Ytimiofkiadlnbaa
