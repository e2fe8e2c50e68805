/-
  Stage 2, span: the document's own Apply of ADD to OR.
-/
import Derived.Test.YtdlfmifkjmajpabSRefA
import Derived.Test.YtdlfmifkjmajpabSSet
import Derived.Deep.DeepCutAuto
namespace Go.Proofs.Ytdlfmifkjmajpab
open Go.RowKit

set_option maxHeartbeats 1000000 in
theorem refApply_3f1 (a b c d : Int) (w : World) (ha : W64 a) (hb : W64 b) (hc : W64 c) (hd : W64 d) (h2 : a ≤ b) (e1 : (a == b) = false) (h3 : c ≤ d) (e2 : (c == d) = false) :
    Calls Try.prog 17 #[.int .u8 3, .agg #[.int .u64 a, .int .u64 b], .agg #[.int .u64 c, .int .u64 d]] w fun x w' => x = .returned (.agg #[.int .u64 (allLo 3 a b c d), .int .u64 (allHi 3 a b c d)]) ∧ Gr w w' := by
  show Calls Try.prog 17 #[.int .u8 3, .agg #[.int .u64 a, .int .u64 b], .agg #[.int .u64 c, .int .u64 d]] w fun x w' => x = .returned (.agg #[.int .u64 (sumLo a b c d), .int .u64 (sumHi a b c d)]) ∧ Gr w w'
  have hn := fun w => refNum_any 3 a c w rfl hc.1
  have hf := fun w => fill_any b d w hb hd
  have d1 : decide (b < a) = false := by simp; omega
  have d2 : decide (d < c) = false := by simp; omega
  generalize one 3 a c = v at hn
  generalize ones b d = o1 at hf
  have part := fun w => refSum_any a b c d w ha hb hc hd
  generalize sumLo a b c d = r1 at part ⊢
  generalize sumHi a b c d = r2 at part ⊢
  clear ha hb hc hd h2 h3
  go_enter Try.func17, Try.ntmps17
  go_upto_region 18 with (first | (go_at_call 32; refine (hn _).mono ?_; rintro x w' ⟨rfl, rfl⟩) | (go_at_call 36; refine (hf _).mono ?_; rintro x w' ⟨rfl, rfl⟩) | (go_at_call 35; refine (refOf_any _ _).mono ?_; rintro x w' ⟨rfl, rfl⟩) | (go_at_call 27; refine (refEmpty_any _ _ _).mono ?_; rintro x w' ⟨rfl, rfl⟩) | (go_at_call 28; refine (refNone_any _).mono ?_; rintro x w' ⟨rfl, rfl⟩) | (go_at_call 34; refine (refOne_any _ _ _).mono ?_; rintro x w' ⟨rfl, rfl⟩))
  refine wp_world (fun w5 => At w5 (w.heap.size) #[.int .u64 a, .int .u64 b] ∧ At w5 (w.heap.size + 1) #[.int .u64 c, .int .u64 d] ∧ At w5 (w.heap.size + 1 + 1) #[.int .u64 0, .int .u64 0] ∧ Gr w w5) ⟨?_, ?_, ?_, ?_⟩ ?_
  · repeat (first | exact At.new _ _ _ | refine At.alloc ?_ _)
  · repeat (first | (refine At.at_ _ _ _ ?_; simp; done) | refine At.alloc ?_ _)
  · repeat (first | (refine At.at_ _ _ _ ?_; simp; done) | refine At.alloc ?_ _)
  · repeat (first | exact Gr.refl _ | refine Gr.alloc ?_ _ | refine Gr.grow ?_ _ | refine Gr.drew ?_)
  rintro w5 ⟨A_a, A_c, A_t, hB⟩
  have ⟨z_a, q_a, _⟩ := A_a
  have ⟨z_c, q_c, _⟩ := A_c
  have ⟨z_t, q_t, _⟩ := A_t
  go_wp2_with fail
  refine (part _).mono ?_
  rintro x w6 ⟨rfl, hG⟩
  clear z_a q_a z_c q_c z_t q_t
  replace A_t := A_t.gr hG
  replace hB := hB.trans hG
  have ⟨z_t, q_t, f_t⟩ := A_t
  go_wp2_with fail
  simp [bodyPost, results, Try.results17, go_sem, *]
  repeat (first | exact hB | refine Gr.alloc ?_ _ | refine Gr.setCell ?_ _ _ _ (by omega))

set_option maxHeartbeats 1000000 in
theorem refApply_3f2 (a b c d : Int) (w : World) (ha : W64 a) (hb : W64 b) (hc : W64 c) (hd : W64 d) (h2 : a ≤ b) (e1 : (a == b) = true) (h3 : c ≤ d) (e2 : (c == d) = false) :
    Calls Try.prog 17 #[.int .u8 3, .agg #[.int .u64 a, .int .u64 b], .agg #[.int .u64 c, .int .u64 d]] w fun x w' => x = .returned (.agg #[.int .u64 (allLo 3 a b c d), .int .u64 (allHi 3 a b c d)]) ∧ Gr w w' := by
  show Calls Try.prog 17 #[.int .u8 3, .agg #[.int .u64 a, .int .u64 b], .agg #[.int .u64 c, .int .u64 d]] w fun x w' => x = .returned (.agg #[.int .u64 (sumLo a b c d), .int .u64 (sumHi a b c d)]) ∧ Gr w w'
  have hn := fun w => refNum_any 3 a c w rfl hc.1
  have hf := fun w => fill_any b d w hb hd
  have d1 : decide (b < a) = false := by simp; omega
  have d2 : decide (d < c) = false := by simp; omega
  generalize one 3 a c = v at hn
  generalize ones b d = o1 at hf
  have part := fun w => refSum_any a b c d w ha hb hc hd
  generalize sumLo a b c d = r1 at part ⊢
  generalize sumHi a b c d = r2 at part ⊢
  clear ha hb hc hd h2 h3
  go_enter Try.func17, Try.ntmps17
  go_upto_region 18 with (first | (go_at_call 32; refine (hn _).mono ?_; rintro x w' ⟨rfl, rfl⟩) | (go_at_call 36; refine (hf _).mono ?_; rintro x w' ⟨rfl, rfl⟩) | (go_at_call 35; refine (refOf_any _ _).mono ?_; rintro x w' ⟨rfl, rfl⟩) | (go_at_call 27; refine (refEmpty_any _ _ _).mono ?_; rintro x w' ⟨rfl, rfl⟩) | (go_at_call 28; refine (refNone_any _).mono ?_; rintro x w' ⟨rfl, rfl⟩) | (go_at_call 34; refine (refOne_any _ _ _).mono ?_; rintro x w' ⟨rfl, rfl⟩))
  refine wp_world (fun w5 => At w5 (w.heap.size) #[.int .u64 a, .int .u64 b] ∧ At w5 (w.heap.size + 1) #[.int .u64 c, .int .u64 d] ∧ At w5 (w.heap.size + 1 + 1) #[.int .u64 0, .int .u64 0] ∧ Gr w w5) ⟨?_, ?_, ?_, ?_⟩ ?_
  · repeat (first | exact At.new _ _ _ | refine At.alloc ?_ _)
  · repeat (first | (refine At.at_ _ _ _ ?_; simp; done) | refine At.alloc ?_ _)
  · repeat (first | (refine At.at_ _ _ _ ?_; simp; done) | refine At.alloc ?_ _)
  · repeat (first | exact Gr.refl _ | refine Gr.alloc ?_ _ | refine Gr.grow ?_ _ | refine Gr.drew ?_)
  rintro w5 ⟨A_a, A_c, A_t, hB⟩
  have ⟨z_a, q_a, _⟩ := A_a
  have ⟨z_c, q_c, _⟩ := A_c
  have ⟨z_t, q_t, _⟩ := A_t
  go_wp2_with fail
  refine (part _).mono ?_
  rintro x w6 ⟨rfl, hG⟩
  clear z_a q_a z_c q_c z_t q_t
  replace A_t := A_t.gr hG
  replace hB := hB.trans hG
  have ⟨z_t, q_t, f_t⟩ := A_t
  go_wp2_with fail
  simp [bodyPost, results, Try.results17, go_sem, *]
  repeat (first | exact hB | refine Gr.alloc ?_ _ | refine Gr.setCell ?_ _ _ _ (by omega))

theorem refApply_3f (a b c d : Int) (w : World) (ha : W64 a) (hb : W64 b) (hc : W64 c) (hd : W64 d) (h2 : a ≤ b) (h3 : c ≤ d) (e2 : (c == d) = false) :
    Calls Try.prog 17 #[.int .u8 3, .agg #[.int .u64 a, .int .u64 b], .agg #[.int .u64 c, .int .u64 d]] w fun x w' => x = .returned (.agg #[.int .u64 (allLo 3 a b c d), .int .u64 (allHi 3 a b c d)]) ∧ Gr w w' := by
  cases e1 : (a == b) with
  | false => exact refApply_3f1 a b c d w ha hb hc hd h2 e1 h3 e2
  | true => exact refApply_3f2 a b c d w ha hb hc hd h2 e1 h3 e2

set_option maxHeartbeats 1000000 in
theorem refApply_3t (a b c : Int) (w : World) (ha : W64 a) (hb : W64 b) (hc : W64 c) (h2 : a ≤ b) (e1 : (a == b) = false) :
    Calls Try.prog 17 #[.int .u8 3, .agg #[.int .u64 a, .int .u64 b], .agg #[.int .u64 c, .int .u64 c]] w fun x w' => x = .returned (.agg #[.int .u64 (allLo 3 a b c c), .int .u64 (allHi 3 a b c c)]) ∧ Gr w w' := by
  show Calls Try.prog 17 #[.int .u8 3, .agg #[.int .u64 a, .int .u64 b], .agg #[.int .u64 c, .int .u64 c]] w fun x w' => x = .returned (.agg #[.int .u64 (sumLo a b c c), .int .u64 (sumHi a b c c)]) ∧ Gr w w'
  have h3 : c ≤ c := Int.le_refl c
  have hd := hc
  have hm : c.tmod 64 = c % 64 := Int.tmod_eq_emod_of_nonneg hc.1
  have hn := fun w => refNum_any 3 a c w rfl hc.1
  have hf := fun w => fill_any b c w hb hd
  have d1 : decide (b < a) = false := by simp; omega
  generalize one 3 a c = v at hn
  generalize ones b c = o1 at hf
  have part := fun w => refSum_any a b c c w ha hb hc hd
  generalize sumLo a b c c = r1 at part ⊢
  generalize sumHi a b c c = r2 at part ⊢
  clear ha hb hc hd h2 h3
  go_enter Try.func17, Try.ntmps17
  go_upto_region 18 with (first | (go_at_call 32; refine (hn _).mono ?_; rintro x w' ⟨rfl, rfl⟩) | (go_at_call 36; refine (hf _).mono ?_; rintro x w' ⟨rfl, rfl⟩) | (go_at_call 35; refine (refOf_any _ _).mono ?_; rintro x w' ⟨rfl, rfl⟩) | (go_at_call 27; refine (refEmpty_any _ _ _).mono ?_; rintro x w' ⟨rfl, rfl⟩) | (go_at_call 28; refine (refNone_any _).mono ?_; rintro x w' ⟨rfl, rfl⟩) | (go_at_call 34; refine (refOne_any _ _ _).mono ?_; rintro x w' ⟨rfl, rfl⟩))
  refine wp_world (fun w5 => At w5 (w.heap.size) #[.int .u64 a, .int .u64 b] ∧ At w5 (w.heap.size + 1) #[.int .u64 c, .int .u64 c] ∧ At w5 (w.heap.size + 1 + 1) #[.int .u64 0, .int .u64 0] ∧ Gr w w5) ⟨?_, ?_, ?_, ?_⟩ ?_
  · repeat (first | exact At.new _ _ _ | refine At.alloc ?_ _)
  · repeat (first | (refine At.at_ _ _ _ ?_; simp; done) | refine At.alloc ?_ _)
  · repeat (first | (refine At.at_ _ _ _ ?_; simp; done) | refine At.alloc ?_ _)
  · repeat (first | exact Gr.refl _ | refine Gr.alloc ?_ _ | refine Gr.grow ?_ _ | refine Gr.drew ?_)
  rintro w5 ⟨A_a, A_c, A_t, hB⟩
  have ⟨z_a, q_a, _⟩ := A_a
  have ⟨z_c, q_c, _⟩ := A_c
  have ⟨z_t, q_t, _⟩ := A_t
  go_wp2_with fail
  refine (part _).mono ?_
  rintro x w6 ⟨rfl, hG⟩
  clear z_a q_a z_c q_c z_t q_t
  replace A_t := A_t.gr hG
  replace hB := hB.trans hG
  have ⟨z_t, q_t, f_t⟩ := A_t
  go_wp2_with fail
  simp [bodyPost, results, Try.results17, go_sem, *]
  repeat (first | exact hB | refine Gr.alloc ?_ _ | refine Gr.setCell ?_ _ _ _ (by omega))

set_option maxHeartbeats 1000000 in
theorem refApply_4f1 (a b c d : Int) (w : World) (_ha : W64 a) (hb : W64 b) (hc : W64 c) (hd : W64 d) (h2 : a ≤ b) (e1 : (a == b) = false) (h3 : c ≤ d) (e2 : (c == d) = false) :
    Calls Try.prog 17 #[.int .u8 4, .agg #[.int .u64 a, .int .u64 b], .agg #[.int .u64 c, .int .u64 d]] w fun x w' => x = .returned (.agg #[.int .u64 (allLo 4 a b c d), .int .u64 (allHi 4 a b c d)]) ∧ Gr w w' := by
  show Calls Try.prog 17 #[.int .u8 4, .agg #[.int .u64 a, .int .u64 b], .agg #[.int .u64 c, .int .u64 d]] w fun x w' => x = .returned (.agg #[.int .u64 (difLo a b c d), .int .u64 (difHi a b c d)]) ∧ Gr w w'
  have hn := fun w => refNum_any 4 a c w rfl hc.1
  have hf := fun w => fill_any b d w hb hd
  have d1 : decide (b < a) = false := by simp; omega
  have d2 : decide (d < c) = false := by simp; omega
  generalize one 4 a c = v at hn
  generalize ones b d = o1 at hf
  have part := fun w => refLess_any a b c d w h2 h3
  generalize difLo a b c d = r1 at part ⊢
  generalize difHi a b c d = r2 at part ⊢
  clear _ha hb hc hd h2 h3
  go_enter Try.func17, Try.ntmps17
  go_upto_region 20 with (first | (go_at_call 32; refine (hn _).mono ?_; rintro x w' ⟨rfl, rfl⟩) | (go_at_call 36; refine (hf _).mono ?_; rintro x w' ⟨rfl, rfl⟩) | (go_at_call 35; refine (refOf_any _ _).mono ?_; rintro x w' ⟨rfl, rfl⟩) | (go_at_call 27; refine (refEmpty_any _ _ _).mono ?_; rintro x w' ⟨rfl, rfl⟩) | (go_at_call 28; refine (refNone_any _).mono ?_; rintro x w' ⟨rfl, rfl⟩) | (go_at_call 34; refine (refOne_any _ _ _).mono ?_; rintro x w' ⟨rfl, rfl⟩))
  refine wp_world (fun w5 => At w5 (w.heap.size) #[.int .u64 a, .int .u64 b] ∧ At w5 (w.heap.size + 1) #[.int .u64 c, .int .u64 d] ∧ At w5 (w.heap.size + 1 + 1) #[.int .u64 0, .int .u64 0] ∧ Gr w w5) ⟨?_, ?_, ?_, ?_⟩ ?_
  · repeat (first | exact At.new _ _ _ | refine At.alloc ?_ _)
  · repeat (first | (refine At.at_ _ _ _ ?_; simp; done) | refine At.alloc ?_ _)
  · repeat (first | (refine At.at_ _ _ _ ?_; simp; done) | refine At.alloc ?_ _)
  · repeat (first | exact Gr.refl _ | refine Gr.alloc ?_ _ | refine Gr.grow ?_ _ | refine Gr.drew ?_)
  rintro w5 ⟨A_a, A_c, A_t, hB⟩
  have ⟨z_a, q_a, _⟩ := A_a
  have ⟨z_c, q_c, _⟩ := A_c
  have ⟨z_t, q_t, _⟩ := A_t
  go_wp2_with fail
  refine (part _).mono ?_
  rintro x w6 ⟨rfl, hG⟩
  clear z_a q_a z_c q_c z_t q_t
  replace A_t := A_t.gr hG
  replace hB := hB.trans hG
  have ⟨z_t, q_t, f_t⟩ := A_t
  go_wp2_with fail
  simp [bodyPost, results, Try.results17, go_sem, *]
  repeat (first | exact hB | refine Gr.alloc ?_ _ | refine Gr.setCell ?_ _ _ _ (by omega))

set_option maxHeartbeats 1000000 in
theorem refApply_4f2 (a b c d : Int) (w : World) (_ha : W64 a) (hb : W64 b) (hc : W64 c) (hd : W64 d) (h2 : a ≤ b) (e1 : (a == b) = true) (h3 : c ≤ d) (e2 : (c == d) = false) :
    Calls Try.prog 17 #[.int .u8 4, .agg #[.int .u64 a, .int .u64 b], .agg #[.int .u64 c, .int .u64 d]] w fun x w' => x = .returned (.agg #[.int .u64 (allLo 4 a b c d), .int .u64 (allHi 4 a b c d)]) ∧ Gr w w' := by
  show Calls Try.prog 17 #[.int .u8 4, .agg #[.int .u64 a, .int .u64 b], .agg #[.int .u64 c, .int .u64 d]] w fun x w' => x = .returned (.agg #[.int .u64 (difLo a b c d), .int .u64 (difHi a b c d)]) ∧ Gr w w'
  have hn := fun w => refNum_any 4 a c w rfl hc.1
  have hf := fun w => fill_any b d w hb hd
  have d1 : decide (b < a) = false := by simp; omega
  have d2 : decide (d < c) = false := by simp; omega
  generalize one 4 a c = v at hn
  generalize ones b d = o1 at hf
  have part := fun w => refLess_any a b c d w h2 h3
  generalize difLo a b c d = r1 at part ⊢
  generalize difHi a b c d = r2 at part ⊢
  clear _ha hb hc hd h2 h3
  go_enter Try.func17, Try.ntmps17
  go_upto_region 20 with (first | (go_at_call 32; refine (hn _).mono ?_; rintro x w' ⟨rfl, rfl⟩) | (go_at_call 36; refine (hf _).mono ?_; rintro x w' ⟨rfl, rfl⟩) | (go_at_call 35; refine (refOf_any _ _).mono ?_; rintro x w' ⟨rfl, rfl⟩) | (go_at_call 27; refine (refEmpty_any _ _ _).mono ?_; rintro x w' ⟨rfl, rfl⟩) | (go_at_call 28; refine (refNone_any _).mono ?_; rintro x w' ⟨rfl, rfl⟩) | (go_at_call 34; refine (refOne_any _ _ _).mono ?_; rintro x w' ⟨rfl, rfl⟩))
  refine wp_world (fun w5 => At w5 (w.heap.size) #[.int .u64 a, .int .u64 b] ∧ At w5 (w.heap.size + 1) #[.int .u64 c, .int .u64 d] ∧ At w5 (w.heap.size + 1 + 1) #[.int .u64 0, .int .u64 0] ∧ Gr w w5) ⟨?_, ?_, ?_, ?_⟩ ?_
  · repeat (first | exact At.new _ _ _ | refine At.alloc ?_ _)
  · repeat (first | (refine At.at_ _ _ _ ?_; simp; done) | refine At.alloc ?_ _)
  · repeat (first | (refine At.at_ _ _ _ ?_; simp; done) | refine At.alloc ?_ _)
  · repeat (first | exact Gr.refl _ | refine Gr.alloc ?_ _ | refine Gr.grow ?_ _ | refine Gr.drew ?_)
  rintro w5 ⟨A_a, A_c, A_t, hB⟩
  have ⟨z_a, q_a, _⟩ := A_a
  have ⟨z_c, q_c, _⟩ := A_c
  have ⟨z_t, q_t, _⟩ := A_t
  go_wp2_with fail
  refine (part _).mono ?_
  rintro x w6 ⟨rfl, hG⟩
  clear z_a q_a z_c q_c z_t q_t
  replace A_t := A_t.gr hG
  replace hB := hB.trans hG
  have ⟨z_t, q_t, f_t⟩ := A_t
  go_wp2_with fail
  simp [bodyPost, results, Try.results17, go_sem, *]
  repeat (first | exact hB | refine Gr.alloc ?_ _ | refine Gr.setCell ?_ _ _ _ (by omega))

theorem refApply_4f (a b c d : Int) (w : World) (ha : W64 a) (hb : W64 b) (hc : W64 c) (hd : W64 d) (h2 : a ≤ b) (h3 : c ≤ d) (e2 : (c == d) = false) :
    Calls Try.prog 17 #[.int .u8 4, .agg #[.int .u64 a, .int .u64 b], .agg #[.int .u64 c, .int .u64 d]] w fun x w' => x = .returned (.agg #[.int .u64 (allLo 4 a b c d), .int .u64 (allHi 4 a b c d)]) ∧ Gr w w' := by
  cases e1 : (a == b) with
  | false => exact refApply_4f1 a b c d w ha hb hc hd h2 e1 h3 e2
  | true => exact refApply_4f2 a b c d w ha hb hc hd h2 e1 h3 e2

set_option maxHeartbeats 1000000 in
theorem refApply_4t (a b c : Int) (w : World) (_ha : W64 a) (hb : W64 b) (hc : W64 c) (h2 : a ≤ b) (e1 : (a == b) = false) :
    Calls Try.prog 17 #[.int .u8 4, .agg #[.int .u64 a, .int .u64 b], .agg #[.int .u64 c, .int .u64 c]] w fun x w' => x = .returned (.agg #[.int .u64 (allLo 4 a b c c), .int .u64 (allHi 4 a b c c)]) ∧ Gr w w' := by
  show Calls Try.prog 17 #[.int .u8 4, .agg #[.int .u64 a, .int .u64 b], .agg #[.int .u64 c, .int .u64 c]] w fun x w' => x = .returned (.agg #[.int .u64 (difLo a b c c), .int .u64 (difHi a b c c)]) ∧ Gr w w'
  have h3 : c ≤ c := Int.le_refl c
  have hd := hc
  have hm : c.tmod 64 = c % 64 := Int.tmod_eq_emod_of_nonneg hc.1
  have hn := fun w => refNum_any 4 a c w rfl hc.1
  have hf := fun w => fill_any b c w hb hd
  have d1 : decide (b < a) = false := by simp; omega
  generalize one 4 a c = v at hn
  generalize ones b c = o1 at hf
  have part := fun w => refLess_any a b c c w h2 h3
  generalize difLo a b c c = r1 at part ⊢
  generalize difHi a b c c = r2 at part ⊢
  clear _ha hb hc hd h2 h3
  go_enter Try.func17, Try.ntmps17
  go_upto_region 20 with (first | (go_at_call 32; refine (hn _).mono ?_; rintro x w' ⟨rfl, rfl⟩) | (go_at_call 36; refine (hf _).mono ?_; rintro x w' ⟨rfl, rfl⟩) | (go_at_call 35; refine (refOf_any _ _).mono ?_; rintro x w' ⟨rfl, rfl⟩) | (go_at_call 27; refine (refEmpty_any _ _ _).mono ?_; rintro x w' ⟨rfl, rfl⟩) | (go_at_call 28; refine (refNone_any _).mono ?_; rintro x w' ⟨rfl, rfl⟩) | (go_at_call 34; refine (refOne_any _ _ _).mono ?_; rintro x w' ⟨rfl, rfl⟩))
  refine wp_world (fun w5 => At w5 (w.heap.size) #[.int .u64 a, .int .u64 b] ∧ At w5 (w.heap.size + 1) #[.int .u64 c, .int .u64 c] ∧ At w5 (w.heap.size + 1 + 1) #[.int .u64 0, .int .u64 0] ∧ Gr w w5) ⟨?_, ?_, ?_, ?_⟩ ?_
  · repeat (first | exact At.new _ _ _ | refine At.alloc ?_ _)
  · repeat (first | (refine At.at_ _ _ _ ?_; simp; done) | refine At.alloc ?_ _)
  · repeat (first | (refine At.at_ _ _ _ ?_; simp; done) | refine At.alloc ?_ _)
  · repeat (first | exact Gr.refl _ | refine Gr.alloc ?_ _ | refine Gr.grow ?_ _ | refine Gr.drew ?_)
  rintro w5 ⟨A_a, A_c, A_t, hB⟩
  have ⟨z_a, q_a, _⟩ := A_a
  have ⟨z_c, q_c, _⟩ := A_c
  have ⟨z_t, q_t, _⟩ := A_t
  go_wp2_with fail
  refine (part _).mono ?_
  rintro x w6 ⟨rfl, hG⟩
  clear z_a q_a z_c q_c z_t q_t
  replace A_t := A_t.gr hG
  replace hB := hB.trans hG
  have ⟨z_t, q_t, f_t⟩ := A_t
  go_wp2_with fail
  simp [bodyPost, results, Try.results17, go_sem, *]
  repeat (first | exact hB | refine Gr.alloc ?_ _ | refine Gr.setCell ?_ _ _ _ (by omega))

set_option maxHeartbeats 1000000 in
theorem refApply_5f1 (a b c d : Int) (w : World) (ha : W64 a) (hb : W64 b) (hc : W64 c) (hd : W64 d) (h2 : a ≤ b) (e1 : (a == b) = false) (h3 : c ≤ d) (e2 : (c == d) = false) :
    Calls Try.prog 17 #[.int .u8 5, .agg #[.int .u64 a, .int .u64 b], .agg #[.int .u64 c, .int .u64 d]] w fun x w' => x = .returned (.agg #[.int .u64 (allLo 5 a b c d), .int .u64 (allHi 5 a b c d)]) ∧ Gr w w' := by
  show Calls Try.prog 17 #[.int .u8 5, .agg #[.int .u64 a, .int .u64 b], .agg #[.int .u64 c, .int .u64 d]] w fun x w' => x = .returned (.agg #[.int .u64 (proLo a b c d), .int .u64 (proHi b d)]) ∧ Gr w w'
  have hn := fun w => refNum_any 5 a c w rfl hc.1
  have hf := fun w => fill_any b d w hb hd
  have d1 : decide (b < a) = false := by simp; omega
  have d2 : decide (d < c) = false := by simp; omega
  generalize one 5 a c = v at hn
  generalize ones b d = o1 at hf
  have part := fun w => refTimes_any a b c d w ha hb hc hd
  generalize proLo a b c d = r1 at part ⊢
  generalize proHi b d = r2 at part ⊢
  clear ha hb hc hd h2 h3
  go_enter Try.func17, Try.ntmps17
  go_upto_region 22 with (first | (go_at_call 32; refine (hn _).mono ?_; rintro x w' ⟨rfl, rfl⟩) | (go_at_call 36; refine (hf _).mono ?_; rintro x w' ⟨rfl, rfl⟩) | (go_at_call 35; refine (refOf_any _ _).mono ?_; rintro x w' ⟨rfl, rfl⟩) | (go_at_call 27; refine (refEmpty_any _ _ _).mono ?_; rintro x w' ⟨rfl, rfl⟩) | (go_at_call 28; refine (refNone_any _).mono ?_; rintro x w' ⟨rfl, rfl⟩) | (go_at_call 34; refine (refOne_any _ _ _).mono ?_; rintro x w' ⟨rfl, rfl⟩))
  refine wp_world (fun w5 => At w5 (w.heap.size) #[.int .u64 a, .int .u64 b] ∧ At w5 (w.heap.size + 1) #[.int .u64 c, .int .u64 d] ∧ At w5 (w.heap.size + 1 + 1) #[.int .u64 0, .int .u64 0] ∧ Gr w w5) ⟨?_, ?_, ?_, ?_⟩ ?_
  · repeat (first | exact At.new _ _ _ | refine At.alloc ?_ _)
  · repeat (first | (refine At.at_ _ _ _ ?_; simp; done) | refine At.alloc ?_ _)
  · repeat (first | (refine At.at_ _ _ _ ?_; simp; done) | refine At.alloc ?_ _)
  · repeat (first | exact Gr.refl _ | refine Gr.alloc ?_ _ | refine Gr.grow ?_ _ | refine Gr.drew ?_)
  rintro w5 ⟨A_a, A_c, A_t, hB⟩
  have ⟨z_a, q_a, _⟩ := A_a
  have ⟨z_c, q_c, _⟩ := A_c
  have ⟨z_t, q_t, _⟩ := A_t
  go_wp2_with fail
  refine (part _).mono ?_
  rintro x w6 ⟨rfl, hG⟩
  clear z_a q_a z_c q_c z_t q_t
  replace A_t := A_t.gr hG
  replace hB := hB.trans hG
  have ⟨z_t, q_t, f_t⟩ := A_t
  go_wp2_with fail
  simp [bodyPost, results, Try.results17, go_sem, *]
  repeat (first | exact hB | refine Gr.alloc ?_ _ | refine Gr.setCell ?_ _ _ _ (by omega))

set_option maxHeartbeats 1000000 in
theorem refApply_5f2 (a b c d : Int) (w : World) (ha : W64 a) (hb : W64 b) (hc : W64 c) (hd : W64 d) (h2 : a ≤ b) (e1 : (a == b) = true) (h3 : c ≤ d) (e2 : (c == d) = false) :
    Calls Try.prog 17 #[.int .u8 5, .agg #[.int .u64 a, .int .u64 b], .agg #[.int .u64 c, .int .u64 d]] w fun x w' => x = .returned (.agg #[.int .u64 (allLo 5 a b c d), .int .u64 (allHi 5 a b c d)]) ∧ Gr w w' := by
  show Calls Try.prog 17 #[.int .u8 5, .agg #[.int .u64 a, .int .u64 b], .agg #[.int .u64 c, .int .u64 d]] w fun x w' => x = .returned (.agg #[.int .u64 (proLo a b c d), .int .u64 (proHi b d)]) ∧ Gr w w'
  have hn := fun w => refNum_any 5 a c w rfl hc.1
  have hf := fun w => fill_any b d w hb hd
  have d1 : decide (b < a) = false := by simp; omega
  have d2 : decide (d < c) = false := by simp; omega
  generalize one 5 a c = v at hn
  generalize ones b d = o1 at hf
  have part := fun w => refTimes_any a b c d w ha hb hc hd
  generalize proLo a b c d = r1 at part ⊢
  generalize proHi b d = r2 at part ⊢
  clear ha hb hc hd h2 h3
  go_enter Try.func17, Try.ntmps17
  go_upto_region 22 with (first | (go_at_call 32; refine (hn _).mono ?_; rintro x w' ⟨rfl, rfl⟩) | (go_at_call 36; refine (hf _).mono ?_; rintro x w' ⟨rfl, rfl⟩) | (go_at_call 35; refine (refOf_any _ _).mono ?_; rintro x w' ⟨rfl, rfl⟩) | (go_at_call 27; refine (refEmpty_any _ _ _).mono ?_; rintro x w' ⟨rfl, rfl⟩) | (go_at_call 28; refine (refNone_any _).mono ?_; rintro x w' ⟨rfl, rfl⟩) | (go_at_call 34; refine (refOne_any _ _ _).mono ?_; rintro x w' ⟨rfl, rfl⟩))
  refine wp_world (fun w5 => At w5 (w.heap.size) #[.int .u64 a, .int .u64 b] ∧ At w5 (w.heap.size + 1) #[.int .u64 c, .int .u64 d] ∧ At w5 (w.heap.size + 1 + 1) #[.int .u64 0, .int .u64 0] ∧ Gr w w5) ⟨?_, ?_, ?_, ?_⟩ ?_
  · repeat (first | exact At.new _ _ _ | refine At.alloc ?_ _)
  · repeat (first | (refine At.at_ _ _ _ ?_; simp; done) | refine At.alloc ?_ _)
  · repeat (first | (refine At.at_ _ _ _ ?_; simp; done) | refine At.alloc ?_ _)
  · repeat (first | exact Gr.refl _ | refine Gr.alloc ?_ _ | refine Gr.grow ?_ _ | refine Gr.drew ?_)
  rintro w5 ⟨A_a, A_c, A_t, hB⟩
  have ⟨z_a, q_a, _⟩ := A_a
  have ⟨z_c, q_c, _⟩ := A_c
  have ⟨z_t, q_t, _⟩ := A_t
  go_wp2_with fail
  refine (part _).mono ?_
  rintro x w6 ⟨rfl, hG⟩
  clear z_a q_a z_c q_c z_t q_t
  replace A_t := A_t.gr hG
  replace hB := hB.trans hG
  have ⟨z_t, q_t, f_t⟩ := A_t
  go_wp2_with fail
  simp [bodyPost, results, Try.results17, go_sem, *]
  repeat (first | exact hB | refine Gr.alloc ?_ _ | refine Gr.setCell ?_ _ _ _ (by omega))

theorem refApply_5f (a b c d : Int) (w : World) (ha : W64 a) (hb : W64 b) (hc : W64 c) (hd : W64 d) (h2 : a ≤ b) (h3 : c ≤ d) (e2 : (c == d) = false) :
    Calls Try.prog 17 #[.int .u8 5, .agg #[.int .u64 a, .int .u64 b], .agg #[.int .u64 c, .int .u64 d]] w fun x w' => x = .returned (.agg #[.int .u64 (allLo 5 a b c d), .int .u64 (allHi 5 a b c d)]) ∧ Gr w w' := by
  cases e1 : (a == b) with
  | false => exact refApply_5f1 a b c d w ha hb hc hd h2 e1 h3 e2
  | true => exact refApply_5f2 a b c d w ha hb hc hd h2 e1 h3 e2

set_option maxHeartbeats 1000000 in
theorem refApply_5t (a b c : Int) (w : World) (ha : W64 a) (hb : W64 b) (hc : W64 c) (h2 : a ≤ b) (e1 : (a == b) = false) :
    Calls Try.prog 17 #[.int .u8 5, .agg #[.int .u64 a, .int .u64 b], .agg #[.int .u64 c, .int .u64 c]] w fun x w' => x = .returned (.agg #[.int .u64 (allLo 5 a b c c), .int .u64 (allHi 5 a b c c)]) ∧ Gr w w' := by
  show Calls Try.prog 17 #[.int .u8 5, .agg #[.int .u64 a, .int .u64 b], .agg #[.int .u64 c, .int .u64 c]] w fun x w' => x = .returned (.agg #[.int .u64 (proLo a b c c), .int .u64 (proHi b c)]) ∧ Gr w w'
  have h3 : c ≤ c := Int.le_refl c
  have hd := hc
  have hm : c.tmod 64 = c % 64 := Int.tmod_eq_emod_of_nonneg hc.1
  have hn := fun w => refNum_any 5 a c w rfl hc.1
  have hf := fun w => fill_any b c w hb hd
  have d1 : decide (b < a) = false := by simp; omega
  generalize one 5 a c = v at hn
  generalize ones b c = o1 at hf
  have part := fun w => refTimes_any a b c c w ha hb hc hd
  generalize proLo a b c c = r1 at part ⊢
  generalize proHi b c = r2 at part ⊢
  clear ha hb hc hd h2 h3
  go_enter Try.func17, Try.ntmps17
  go_upto_region 22 with (first | (go_at_call 32; refine (hn _).mono ?_; rintro x w' ⟨rfl, rfl⟩) | (go_at_call 36; refine (hf _).mono ?_; rintro x w' ⟨rfl, rfl⟩) | (go_at_call 35; refine (refOf_any _ _).mono ?_; rintro x w' ⟨rfl, rfl⟩) | (go_at_call 27; refine (refEmpty_any _ _ _).mono ?_; rintro x w' ⟨rfl, rfl⟩) | (go_at_call 28; refine (refNone_any _).mono ?_; rintro x w' ⟨rfl, rfl⟩) | (go_at_call 34; refine (refOne_any _ _ _).mono ?_; rintro x w' ⟨rfl, rfl⟩))
  refine wp_world (fun w5 => At w5 (w.heap.size) #[.int .u64 a, .int .u64 b] ∧ At w5 (w.heap.size + 1) #[.int .u64 c, .int .u64 c] ∧ At w5 (w.heap.size + 1 + 1) #[.int .u64 0, .int .u64 0] ∧ Gr w w5) ⟨?_, ?_, ?_, ?_⟩ ?_
  · repeat (first | exact At.new _ _ _ | refine At.alloc ?_ _)
  · repeat (first | (refine At.at_ _ _ _ ?_; simp; done) | refine At.alloc ?_ _)
  · repeat (first | (refine At.at_ _ _ _ ?_; simp; done) | refine At.alloc ?_ _)
  · repeat (first | exact Gr.refl _ | refine Gr.alloc ?_ _ | refine Gr.grow ?_ _ | refine Gr.drew ?_)
  rintro w5 ⟨A_a, A_c, A_t, hB⟩
  have ⟨z_a, q_a, _⟩ := A_a
  have ⟨z_c, q_c, _⟩ := A_c
  have ⟨z_t, q_t, _⟩ := A_t
  go_wp2_with fail
  refine (part _).mono ?_
  rintro x w6 ⟨rfl, hG⟩
  clear z_a q_a z_c q_c z_t q_t
  replace A_t := A_t.gr hG
  replace hB := hB.trans hG
  have ⟨z_t, q_t, f_t⟩ := A_t
  go_wp2_with fail
  simp [bodyPost, results, Try.results17, go_sem, *]
  repeat (first | exact hB | refine Gr.alloc ?_ _ | refine Gr.setCell ?_ _ _ _ (by omega))

set_option maxHeartbeats 1000000 in
theorem refApply_6f (a b c d : Int) (w : World) (_ha : W64 a) (hb : W64 b) (hc : W64 c) (hd : W64 d) (h2 : a ≤ b)  (h3 : c ≤ d) (e2 : (c == d) = false) :
    Calls Try.prog 17 #[.int .u8 6, .agg #[.int .u64 a, .int .u64 b], .agg #[.int .u64 c, .int .u64 d]] w fun x w' => x = .returned (.agg #[.int .u64 (allLo 6 a b c d), .int .u64 (allHi 6 a b c d)]) ∧ Gr w w' := by
  show Calls Try.prog 17 #[.int .u8 6, .agg #[.int .u64 a, .int .u64 b], .agg #[.int .u64 c, .int .u64 d]] w fun x w' => x = .returned (.agg #[.int .u64 (0), .int .u64 (minI b d)]) ∧ Gr w w'
  have hn := fun w => refNum_any 6 a c w rfl hc.1
  have hf := fun w => fill_any b d w hb hd
  have d1 : decide (b < a) = false := by simp; omega
  have d2 : decide (d < c) = false := by simp; omega
  generalize one 6 a c = v at hn
  generalize ones b d = o1 at hf
  clear _ha hb hc hd h3
  go_enter Try.func17, Try.ntmps17
  go_wp2_with (first | (go_at_call 32; refine (hn _).mono ?_; rintro x w' ⟨rfl, rfl⟩) | (go_at_call 36; refine (hf _).mono ?_; rintro x w' ⟨rfl, rfl⟩) | (go_at_call 35; refine (refOf_any _ _).mono ?_; rintro x w' ⟨rfl, rfl⟩) | (go_at_call 27; refine (refEmpty_any _ _ _).mono ?_; rintro x w' ⟨rfl, rfl⟩) | (go_at_call 28; refine (refNone_any _).mono ?_; rintro x w' ⟨rfl, rfl⟩) | (go_at_call 34; refine (refOne_any _ _ _).mono ?_; rintro x w' ⟨rfl, rfl⟩))
  all_goals
    simp [bodyPost, results, Try.results17, go_sem]
    refine ⟨by unfold minI; (repeat' split) <;> omega, ?_⟩
    repeat (first | exact Gr.refl _ | refine Gr.alloc ?_ _ | refine Gr.grow ?_ _ | refine Gr.drew ?_)

set_option maxHeartbeats 1000000 in
theorem refApply_6t (a b c : Int) (w : World) (_ha : W64 a) (hb : W64 b) (hc : W64 c) (h2 : a ≤ b) (e1 : (a == b) = false) :
    Calls Try.prog 17 #[.int .u8 6, .agg #[.int .u64 a, .int .u64 b], .agg #[.int .u64 c, .int .u64 c]] w fun x w' => x = .returned (.agg #[.int .u64 (allLo 6 a b c c), .int .u64 (allHi 6 a b c c)]) ∧ Gr w w' := by
  show Calls Try.prog 17 #[.int .u8 6, .agg #[.int .u64 a, .int .u64 b], .agg #[.int .u64 c, .int .u64 c]] w fun x w' => x = .returned (.agg #[.int .u64 (0), .int .u64 (minI b c)]) ∧ Gr w w'
  have h3 : c ≤ c := Int.le_refl c
  have hd := hc
  have hm : c.tmod 64 = c % 64 := Int.tmod_eq_emod_of_nonneg hc.1
  have hn := fun w => refNum_any 6 a c w rfl hc.1
  have hf := fun w => fill_any b c w hb hd
  have d1 : decide (b < a) = false := by simp; omega
  generalize one 6 a c = v at hn
  generalize ones b c = o1 at hf
  clear _ha hb hc hd h3
  go_enter Try.func17, Try.ntmps17
  go_wp2_with (first | (go_at_call 32; refine (hn _).mono ?_; rintro x w' ⟨rfl, rfl⟩) | (go_at_call 36; refine (hf _).mono ?_; rintro x w' ⟨rfl, rfl⟩) | (go_at_call 35; refine (refOf_any _ _).mono ?_; rintro x w' ⟨rfl, rfl⟩) | (go_at_call 27; refine (refEmpty_any _ _ _).mono ?_; rintro x w' ⟨rfl, rfl⟩) | (go_at_call 28; refine (refNone_any _).mono ?_; rintro x w' ⟨rfl, rfl⟩) | (go_at_call 34; refine (refOne_any _ _ _).mono ?_; rintro x w' ⟨rfl, rfl⟩))
  all_goals
    simp [bodyPost, results, Try.results17, go_sem]
    refine ⟨by unfold minI; (repeat' split) <;> omega, ?_⟩
    repeat (first | exact Gr.refl _ | refine Gr.alloc ?_ _ | refine Gr.grow ?_ _ | refine Gr.drew ?_)

set_option maxHeartbeats 1000000 in
theorem refApply_7f (a b c d : Int) (w : World) (_ha : W64 a) (hb : W64 b) (hc : W64 c) (hd : W64 d) (h2 : a ≤ b)  (h3 : c ≤ d) (e2 : (c == d) = false) :
    Calls Try.prog 17 #[.int .u8 7, .agg #[.int .u64 a, .int .u64 b], .agg #[.int .u64 c, .int .u64 d]] w fun x w' => x = .returned (.agg #[.int .u64 (allLo 7 a b c d), .int .u64 (allHi 7 a b c d)]) ∧ Gr w w' := by
  show Calls Try.prog 17 #[.int .u8 7, .agg #[.int .u64 a, .int .u64 b], .agg #[.int .u64 c, .int .u64 d]] w fun x w' => x = .returned (.agg #[.int .u64 (maxI a c), .int .u64 (ones b d)]) ∧ Gr w w'
  have hn := fun w => refNum_any 7 a c w rfl hc.1
  have hf := fun w => fill_any b d w hb hd
  have d1 : decide (b < a) = false := by simp; omega
  have d2 : decide (d < c) = false := by simp; omega
  generalize one 7 a c = v at hn
  generalize ones b d = o1 at hf ⊢
  clear _ha hb hc hd h3
  go_enter Try.func17, Try.ntmps17
  go_wp2_with (first | (go_at_call 32; refine (hn _).mono ?_; rintro x w' ⟨rfl, rfl⟩) | (go_at_call 36; refine (hf _).mono ?_; rintro x w' ⟨rfl, rfl⟩) | (go_at_call 35; refine (refOf_any _ _).mono ?_; rintro x w' ⟨rfl, rfl⟩) | (go_at_call 27; refine (refEmpty_any _ _ _).mono ?_; rintro x w' ⟨rfl, rfl⟩) | (go_at_call 28; refine (refNone_any _).mono ?_; rintro x w' ⟨rfl, rfl⟩) | (go_at_call 34; refine (refOne_any _ _ _).mono ?_; rintro x w' ⟨rfl, rfl⟩))
  all_goals
    simp [bodyPost, results, Try.results17, go_sem]
    refine ⟨by unfold maxI; (repeat' split) <;> omega, ?_⟩
    repeat (first | exact Gr.refl _ | refine Gr.alloc ?_ _ | refine Gr.grow ?_ _ | refine Gr.drew ?_)

set_option maxHeartbeats 1000000 in
theorem refApply_7t (a b c : Int) (w : World) (_ha : W64 a) (hb : W64 b) (hc : W64 c) (h2 : a ≤ b) (e1 : (a == b) = false) :
    Calls Try.prog 17 #[.int .u8 7, .agg #[.int .u64 a, .int .u64 b], .agg #[.int .u64 c, .int .u64 c]] w fun x w' => x = .returned (.agg #[.int .u64 (allLo 7 a b c c), .int .u64 (allHi 7 a b c c)]) ∧ Gr w w' := by
  show Calls Try.prog 17 #[.int .u8 7, .agg #[.int .u64 a, .int .u64 b], .agg #[.int .u64 c, .int .u64 c]] w fun x w' => x = .returned (.agg #[.int .u64 (maxI a c), .int .u64 (ones b c)]) ∧ Gr w w'
  have h3 : c ≤ c := Int.le_refl c
  have hd := hc
  have hm : c.tmod 64 = c % 64 := Int.tmod_eq_emod_of_nonneg hc.1
  have hn := fun w => refNum_any 7 a c w rfl hc.1
  have hf := fun w => fill_any b c w hb hd
  have d1 : decide (b < a) = false := by simp; omega
  generalize one 7 a c = v at hn
  generalize ones b c = o1 at hf ⊢
  clear _ha hb hc hd h3
  go_enter Try.func17, Try.ntmps17
  go_wp2_with (first | (go_at_call 32; refine (hn _).mono ?_; rintro x w' ⟨rfl, rfl⟩) | (go_at_call 36; refine (hf _).mono ?_; rintro x w' ⟨rfl, rfl⟩) | (go_at_call 35; refine (refOf_any _ _).mono ?_; rintro x w' ⟨rfl, rfl⟩) | (go_at_call 27; refine (refEmpty_any _ _ _).mono ?_; rintro x w' ⟨rfl, rfl⟩) | (go_at_call 28; refine (refNone_any _).mono ?_; rintro x w' ⟨rfl, rfl⟩) | (go_at_call 34; refine (refOne_any _ _ _).mono ?_; rintro x w' ⟨rfl, rfl⟩))
  all_goals
    simp [bodyPost, results, Try.results17, go_sem]
    refine ⟨by unfold maxI; (repeat' split) <;> omega, ?_⟩
    repeat (first | exact Gr.refl _ | refine Gr.alloc ?_ _ | refine Gr.grow ?_ _ | refine Gr.drew ?_)

end Go.Proofs.Ytdlfmifkjmajpab
