/-
  Stage 2, span: the document's own Apply of XOR to SEQ.
-/
import Derived.Test.YtdlfmifkjmajpabSRefA
import Derived.Test.YtdlfmifkjmajpabSSet
import Derived.Deep.DeepCutAuto
namespace Go.Proofs.Ytdlfmifkjmajpab
open Go.RowKit

theorem plc_n (c d x : Int) (h : 0 ≤ x) : 0 ≤ plc c d x := by unfold plc; split <;> omega
theorem plc_l (c d : Int) (h : c ≤ d) : plc c d c ≤ plc c d d := by unfold plc; split <;> omega
set_option maxHeartbeats 1000000 in
theorem refApply_8f (a b c d : Int) (w : World) (_ha : W64 a) (hb : W64 b) (hc : W64 c) (hd : W64 d) (h2 : a ≤ b)  (h3 : c ≤ d) (e2 : (c == d) = false) :
    Calls Try.prog 17 #[.int .u8 8, .agg #[.int .u64 a, .int .u64 b], .agg #[.int .u64 c, .int .u64 d]] w fun x w' => x = .returned (.agg #[.int .u64 (allLo 8 a b c d), .int .u64 (allHi 8 a b c d)]) ∧ Gr w w' := by
  show Calls Try.prog 17 #[.int .u8 8, .agg #[.int .u64 a, .int .u64 b], .agg #[.int .u64 c, .int .u64 d]] w fun x w' => x = .returned (.agg #[.int .u64 (0), .int .u64 (ones b d)]) ∧ Gr w w'
  have hn := fun w => refNum_any 8 a c w rfl hc.1
  have hf := fun w => fill_any b d w hb hd
  have d1 : decide (b < a) = false := by simp; omega
  have d2 : decide (d < c) = false := by simp; omega
  generalize one 8 a c = v at hn
  generalize ones b d = o1 at hf ⊢
  clear _ha hb hc hd h3
  go_enter Try.func17, Try.ntmps17
  go_wp2_with (first | (go_at_call 32; refine (hn _).mono ?_; rintro x w' ⟨rfl, rfl⟩) | (go_at_call 36; refine (hf _).mono ?_; rintro x w' ⟨rfl, rfl⟩) | (go_at_call 35; refine (refOf_any _ _).mono ?_; rintro x w' ⟨rfl, rfl⟩) | (go_at_call 27; refine (refEmpty_any _ _ _).mono ?_; rintro x w' ⟨rfl, rfl⟩) | (go_at_call 28; refine (refNone_any _).mono ?_; rintro x w' ⟨rfl, rfl⟩) | (go_at_call 34; refine (refOne_any _ _ _).mono ?_; rintro x w' ⟨rfl, rfl⟩))
  all_goals
    simp [bodyPost, results, Try.results17, go_sem]
    repeat (first | exact Gr.refl _ | refine Gr.alloc ?_ _ | refine Gr.grow ?_ _ | refine Gr.drew ?_)

set_option maxHeartbeats 1000000 in
theorem refApply_8t (a b c : Int) (w : World) (_ha : W64 a) (hb : W64 b) (hc : W64 c) (h2 : a ≤ b) (e1 : (a == b) = false) :
    Calls Try.prog 17 #[.int .u8 8, .agg #[.int .u64 a, .int .u64 b], .agg #[.int .u64 c, .int .u64 c]] w fun x w' => x = .returned (.agg #[.int .u64 (allLo 8 a b c c), .int .u64 (allHi 8 a b c c)]) ∧ Gr w w' := by
  show Calls Try.prog 17 #[.int .u8 8, .agg #[.int .u64 a, .int .u64 b], .agg #[.int .u64 c, .int .u64 c]] w fun x w' => x = .returned (.agg #[.int .u64 (0), .int .u64 (ones b c)]) ∧ Gr w w'
  have h3 : c ≤ c := Int.le_refl c
  have hd := hc
  have hm : c.tmod 64 = c % 64 := Int.tmod_eq_emod_of_nonneg hc.1
  have hn := fun w => refNum_any 8 a c w rfl hc.1
  have hf := fun w => fill_any b c w hb hd
  have d1 : decide (b < a) = false := by simp; omega
  generalize one 8 a c = v at hn
  generalize ones b c = o1 at hf ⊢
  clear _ha hb hc hd h3
  go_enter Try.func17, Try.ntmps17
  go_wp2_with (first | (go_at_call 32; refine (hn _).mono ?_; rintro x w' ⟨rfl, rfl⟩) | (go_at_call 36; refine (hf _).mono ?_; rintro x w' ⟨rfl, rfl⟩) | (go_at_call 35; refine (refOf_any _ _).mono ?_; rintro x w' ⟨rfl, rfl⟩) | (go_at_call 27; refine (refEmpty_any _ _ _).mono ?_; rintro x w' ⟨rfl, rfl⟩) | (go_at_call 28; refine (refNone_any _).mono ?_; rintro x w' ⟨rfl, rfl⟩) | (go_at_call 34; refine (refOne_any _ _ _).mono ?_; rintro x w' ⟨rfl, rfl⟩))
  all_goals
    simp [bodyPost, results, Try.results17, go_sem]
    repeat (first | exact Gr.refl _ | refine Gr.alloc ?_ _ | refine Gr.grow ?_ _ | refine Gr.drew ?_)

set_option maxHeartbeats 1000000 in
theorem refApply_9f1 (a b c d : Int) (w : World) (_ha : W64 a) (hb : W64 b) (hc : W64 c) (hd : W64 d) (h2 : a ≤ b) (e1 : (a == b) = false) (h3 : c ≤ d) (e2 : (c == d) = false) :
    Calls Try.prog 17 #[.int .u8 9, .agg #[.int .u64 a, .int .u64 b], .agg #[.int .u64 c, .int .u64 d]] w fun x w' => x = .returned (.agg #[.int .u64 (allLo 9 a b c d), .int .u64 (allHi 9 a b c d)]) ∧ Gr w w' := by
  show Calls Try.prog 17 #[.int .u8 9, .agg #[.int .u64 a, .int .u64 b], .agg #[.int .u64 c, .int .u64 d]] w fun x w' => x = .returned (.agg #[.int .u64 (upLo a b c d), .int .u64 (upHi b c d)]) ∧ Gr w w'
  have hn := fun w => refNum_any 9 a c w rfl hc.1
  have hf := fun w => fill_any b d w hb hd
  have d1 : decide (b < a) = false := by simp; omega
  have d2 : decide (d < c) = false := by simp; omega
  generalize one 9 a c = v at hn
  generalize ones b d = o1 at hf
  have part := fun w => refUp_any a b (plc c d c) (plc c d d) w hb (plc_n c d c hc.1) (plc_l c d h3)
  have hcd : ¬ c = d := by simpa using e2
  have p1 : plc c d c = c := by simp [plc, hcd]
  have p2 : plc c d d = d := by simp [plc, hcd]
  rw [p1, p2] at part
  unfold upLo upHi
  rw [p1, p2]
  generalize (if upOk b d = true then a * 2 ^ c.toNat % 18446744073709551616 else 0) = r1 at part ⊢
  generalize (if upOk b d = true then b * 2 ^ d.toNat % 18446744073709551616 else 18446744073709551615) = r2 at part ⊢
  clear p1 p2 hcd
  clear _ha hb hc hd h2 h3
  go_enter Try.func17, Try.ntmps17
  go_upto_region 30 with (first | (go_at_call 32; refine (hn _).mono ?_; rintro x w' ⟨rfl, rfl⟩) | (go_at_call 36; refine (hf _).mono ?_; rintro x w' ⟨rfl, rfl⟩) | (go_at_call 35; refine (refOf_any _ _).mono ?_; rintro x w' ⟨rfl, rfl⟩) | (go_at_call 27; refine (refEmpty_any _ _ _).mono ?_; rintro x w' ⟨rfl, rfl⟩) | (go_at_call 28; refine (refNone_any _).mono ?_; rintro x w' ⟨rfl, rfl⟩) | (go_at_call 34; refine (refOne_any _ _ _).mono ?_; rintro x w' ⟨rfl, rfl⟩))
  refine wp_world (fun w5 => At w5 (w.heap.size) #[.int .u64 a, .int .u64 b] ∧ At w5 (w.heap.size + 1) #[.int .u64 c, .int .u64 d] ∧ At w5 (w.heap.size + 1 + 1) #[.int .u64 0, .int .u64 0] ∧ At w5 (w.heap.size + 1 + 1 + 1 + 1 + 1 + 1 + 1) #[.int .u64 c, .int .u64 d] ∧ Gr w w5) ⟨?_, ?_, ?_, ?_, ?_⟩ ?_
  · repeat (first | exact At.new _ _ _ | refine At.alloc ?_ _)
  · repeat (first | (refine At.at_ _ _ _ ?_; simp; done) | refine At.alloc ?_ _)
  · repeat (first | (refine At.at_ _ _ _ ?_; simp; done) | refine At.alloc ?_ _)
  · repeat (first | (refine At.at_ _ _ _ ?_; simp; done) | refine At.alloc ?_ _)
  · repeat (first | exact Gr.refl _ | refine Gr.alloc ?_ _ | refine Gr.grow ?_ _ | refine Gr.drew ?_)
  rintro w5 ⟨A_a, A_c, A_t, A_k, hB⟩
  have ⟨z_a, q_a, _⟩ := A_a
  have ⟨z_c, q_c, _⟩ := A_c
  have ⟨z_t, q_t, _⟩ := A_t
  have ⟨z_k, q_k, _⟩ := A_k
  go_wp2_with fail
  refine (part _).mono ?_
  rintro x w6 ⟨rfl, hG⟩
  clear z_a q_a z_c q_c z_t q_t z_k q_k
  replace A_t := A_t.gr hG
  replace hB := hB.trans hG
  have ⟨z_t, q_t, f_t⟩ := A_t
  go_wp2_with fail
  simp [bodyPost, results, Try.results17, go_sem, *]
  repeat (first | exact hB | refine Gr.alloc ?_ _ | refine Gr.setCell ?_ _ _ _ (by omega))

set_option maxHeartbeats 1000000 in
theorem refApply_9f2 (a b c d : Int) (w : World) (_ha : W64 a) (hb : W64 b) (hc : W64 c) (hd : W64 d) (h2 : a ≤ b) (e1 : (a == b) = true) (h3 : c ≤ d) (e2 : (c == d) = false) :
    Calls Try.prog 17 #[.int .u8 9, .agg #[.int .u64 a, .int .u64 b], .agg #[.int .u64 c, .int .u64 d]] w fun x w' => x = .returned (.agg #[.int .u64 (allLo 9 a b c d), .int .u64 (allHi 9 a b c d)]) ∧ Gr w w' := by
  show Calls Try.prog 17 #[.int .u8 9, .agg #[.int .u64 a, .int .u64 b], .agg #[.int .u64 c, .int .u64 d]] w fun x w' => x = .returned (.agg #[.int .u64 (upLo a b c d), .int .u64 (upHi b c d)]) ∧ Gr w w'
  have hn := fun w => refNum_any 9 a c w rfl hc.1
  have hf := fun w => fill_any b d w hb hd
  have d1 : decide (b < a) = false := by simp; omega
  have d2 : decide (d < c) = false := by simp; omega
  generalize one 9 a c = v at hn
  generalize ones b d = o1 at hf
  have part := fun w => refUp_any a b (plc c d c) (plc c d d) w hb (plc_n c d c hc.1) (plc_l c d h3)
  have hcd : ¬ c = d := by simpa using e2
  have p1 : plc c d c = c := by simp [plc, hcd]
  have p2 : plc c d d = d := by simp [plc, hcd]
  rw [p1, p2] at part
  unfold upLo upHi
  rw [p1, p2]
  generalize (if upOk b d = true then a * 2 ^ c.toNat % 18446744073709551616 else 0) = r1 at part ⊢
  generalize (if upOk b d = true then b * 2 ^ d.toNat % 18446744073709551616 else 18446744073709551615) = r2 at part ⊢
  clear p1 p2 hcd
  clear _ha hb hc hd h2 h3
  go_enter Try.func17, Try.ntmps17
  go_upto_region 30 with (first | (go_at_call 32; refine (hn _).mono ?_; rintro x w' ⟨rfl, rfl⟩) | (go_at_call 36; refine (hf _).mono ?_; rintro x w' ⟨rfl, rfl⟩) | (go_at_call 35; refine (refOf_any _ _).mono ?_; rintro x w' ⟨rfl, rfl⟩) | (go_at_call 27; refine (refEmpty_any _ _ _).mono ?_; rintro x w' ⟨rfl, rfl⟩) | (go_at_call 28; refine (refNone_any _).mono ?_; rintro x w' ⟨rfl, rfl⟩) | (go_at_call 34; refine (refOne_any _ _ _).mono ?_; rintro x w' ⟨rfl, rfl⟩))
  refine wp_world (fun w5 => At w5 (w.heap.size) #[.int .u64 a, .int .u64 b] ∧ At w5 (w.heap.size + 1) #[.int .u64 c, .int .u64 d] ∧ At w5 (w.heap.size + 1 + 1) #[.int .u64 0, .int .u64 0] ∧ At w5 (w.heap.size + 1 + 1 + 1 + 1 + 1 + 1 + 1) #[.int .u64 c, .int .u64 d] ∧ Gr w w5) ⟨?_, ?_, ?_, ?_, ?_⟩ ?_
  · repeat (first | exact At.new _ _ _ | refine At.alloc ?_ _)
  · repeat (first | (refine At.at_ _ _ _ ?_; simp; done) | refine At.alloc ?_ _)
  · repeat (first | (refine At.at_ _ _ _ ?_; simp; done) | refine At.alloc ?_ _)
  · repeat (first | (refine At.at_ _ _ _ ?_; simp; done) | refine At.alloc ?_ _)
  · repeat (first | exact Gr.refl _ | refine Gr.alloc ?_ _ | refine Gr.grow ?_ _ | refine Gr.drew ?_)
  rintro w5 ⟨A_a, A_c, A_t, A_k, hB⟩
  have ⟨z_a, q_a, _⟩ := A_a
  have ⟨z_c, q_c, _⟩ := A_c
  have ⟨z_t, q_t, _⟩ := A_t
  have ⟨z_k, q_k, _⟩ := A_k
  go_wp2_with fail
  refine (part _).mono ?_
  rintro x w6 ⟨rfl, hG⟩
  clear z_a q_a z_c q_c z_t q_t z_k q_k
  replace A_t := A_t.gr hG
  replace hB := hB.trans hG
  have ⟨z_t, q_t, f_t⟩ := A_t
  go_wp2_with fail
  simp [bodyPost, results, Try.results17, go_sem, *]
  repeat (first | exact hB | refine Gr.alloc ?_ _ | refine Gr.setCell ?_ _ _ _ (by omega))

theorem refApply_9f (a b c d : Int) (w : World) (ha : W64 a) (hb : W64 b) (hc : W64 c) (hd : W64 d) (h2 : a ≤ b) (h3 : c ≤ d) (e2 : (c == d) = false) :
    Calls Try.prog 17 #[.int .u8 9, .agg #[.int .u64 a, .int .u64 b], .agg #[.int .u64 c, .int .u64 d]] w fun x w' => x = .returned (.agg #[.int .u64 (allLo 9 a b c d), .int .u64 (allHi 9 a b c d)]) ∧ Gr w w' := by
  cases e1 : (a == b) with
  | false => exact refApply_9f1 a b c d w ha hb hc hd h2 e1 h3 e2
  | true => exact refApply_9f2 a b c d w ha hb hc hd h2 e1 h3 e2

set_option maxHeartbeats 1000000 in
theorem refApply_9t (a b c : Int) (w : World) (_ha : W64 a) (hb : W64 b) (hc : W64 c) (h2 : a ≤ b) (e1 : (a == b) = false) :
    Calls Try.prog 17 #[.int .u8 9, .agg #[.int .u64 a, .int .u64 b], .agg #[.int .u64 c, .int .u64 c]] w fun x w' => x = .returned (.agg #[.int .u64 (allLo 9 a b c c), .int .u64 (allHi 9 a b c c)]) ∧ Gr w w' := by
  show Calls Try.prog 17 #[.int .u8 9, .agg #[.int .u64 a, .int .u64 b], .agg #[.int .u64 c, .int .u64 c]] w fun x w' => x = .returned (.agg #[.int .u64 (upLo a b c c), .int .u64 (upHi b c c)]) ∧ Gr w w'
  have h3 : c ≤ c := Int.le_refl c
  have hd := hc
  have hm : c.tmod 64 = c % 64 := Int.tmod_eq_emod_of_nonneg hc.1
  have hn := fun w => refNum_any 9 a c w rfl hc.1
  have hf := fun w => fill_any b c w hb hd
  have d1 : decide (b < a) = false := by simp; omega
  generalize one 9 a c = v at hn
  generalize ones b c = o1 at hf
  have part := fun w => refUp_any a b (plc c c c) (plc c c c) w hb (plc_n c c c hc.1) (plc_l c c h3)
  have p1 : plc c c c = c % 64 := by simp [plc]
  rw [p1] at part
  unfold upLo upHi
  rw [p1]
  generalize (if upOk b (c % 64) = true then a * 2 ^ (c % 64).toNat % 18446744073709551616 else 0) = r1 at part ⊢
  generalize (if upOk b (c % 64) = true then b * 2 ^ (c % 64).toNat % 18446744073709551616 else 18446744073709551615) = r2 at part ⊢
  clear p1
  clear _ha hb hc hd h2 h3
  go_enter Try.func17, Try.ntmps17
  go_upto_region 30 with (first | (go_at_call 32; refine (hn _).mono ?_; rintro x w' ⟨rfl, rfl⟩) | (go_at_call 36; refine (hf _).mono ?_; rintro x w' ⟨rfl, rfl⟩) | (go_at_call 35; refine (refOf_any _ _).mono ?_; rintro x w' ⟨rfl, rfl⟩) | (go_at_call 27; refine (refEmpty_any _ _ _).mono ?_; rintro x w' ⟨rfl, rfl⟩) | (go_at_call 28; refine (refNone_any _).mono ?_; rintro x w' ⟨rfl, rfl⟩) | (go_at_call 34; refine (refOne_any _ _ _).mono ?_; rintro x w' ⟨rfl, rfl⟩))
  refine wp_world (fun w5 => At w5 (w.heap.size) #[.int .u64 a, .int .u64 b] ∧ At w5 (w.heap.size + 1) #[.int .u64 c, .int .u64 c] ∧ At w5 (w.heap.size + 1 + 1) #[.int .u64 0, .int .u64 0] ∧ At w5 (w.heap.size + 1 + 1 + 1 + 1 + 1 + 1 + 1) #[.int .u64 (c % 64), .int .u64 (c % 64)] ∧ Gr w w5) ⟨?_, ?_, ?_, ?_, ?_⟩ ?_
  · repeat (first | exact At.new _ _ _ | refine At.alloc ?_ _)
  · repeat (first | (refine At.at_ _ _ _ ?_; simp; done) | refine At.alloc ?_ _)
  · repeat (first | (refine At.at_ _ _ _ ?_; simp; done) | refine At.alloc ?_ _)
  · repeat (first | (refine At.at_ _ _ _ ?_; simp; done) | refine At.alloc ?_ _)
  · repeat (first | exact Gr.refl _ | refine Gr.alloc ?_ _ | refine Gr.grow ?_ _ | refine Gr.drew ?_)
  rintro w5 ⟨A_a, A_c, A_t, A_k, hB⟩
  have ⟨z_a, q_a, _⟩ := A_a
  have ⟨z_c, q_c, _⟩ := A_c
  have ⟨z_t, q_t, _⟩ := A_t
  have ⟨z_k, q_k, _⟩ := A_k
  go_wp2_with fail
  refine (part _).mono ?_
  rintro x w6 ⟨rfl, hG⟩
  clear z_a q_a z_c q_c z_t q_t z_k q_k
  replace A_t := A_t.gr hG
  replace hB := hB.trans hG
  have ⟨z_t, q_t, f_t⟩ := A_t
  go_wp2_with fail
  simp [bodyPost, results, Try.results17, go_sem, *]
  repeat (first | exact hB | refine Gr.alloc ?_ _ | refine Gr.setCell ?_ _ _ _ (by omega))

set_option maxHeartbeats 1000000 in
theorem refApply_10f1 (a b c d : Int) (w : World) (_ha : W64 a) (hb : W64 b) (hc : W64 c) (hd : W64 d) (h2 : a ≤ b) (e1 : (a == b) = false) (h3 : c ≤ d) (e2 : (c == d) = false) :
    Calls Try.prog 17 #[.int .u8 10, .agg #[.int .u64 a, .int .u64 b], .agg #[.int .u64 c, .int .u64 d]] w fun x w' => x = .returned (.agg #[.int .u64 (allLo 10 a b c d), .int .u64 (allHi 10 a b c d)]) ∧ Gr w w' := by
  show Calls Try.prog 17 #[.int .u8 10, .agg #[.int .u64 a, .int .u64 b], .agg #[.int .u64 c, .int .u64 d]] w fun x w' => x = .returned (.agg #[.int .u64 (dnLo a c d), .int .u64 (dnHi b c d)]) ∧ Gr w w'
  have hn := fun w => refNum_any 10 a c w rfl hc.1
  have hf := fun w => fill_any b d w hb hd
  have d1 : decide (b < a) = false := by simp; omega
  have d2 : decide (d < c) = false := by simp; omega
  generalize one 10 a c = v at hn
  generalize ones b d = o1 at hf
  have part := fun w => refDown_any a b (plc c d c) (plc c d d) w (plc_n c d c hc.1) (plc_l c d h3)
  have hcd : ¬ c = d := by simpa using e2
  have p1 : plc c d c = c := by simp [plc, hcd]
  have p2 : plc c d d = d := by simp [plc, hcd]
  rw [p1, p2] at part
  unfold dnLo dnHi
  rw [p1, p2]
  generalize (if 64 ≤ d then 0 else a / 2 ^ d.toNat) = r1 at part ⊢
  generalize (if 64 ≤ d then b else b / 2 ^ c.toNat) = r2 at part ⊢
  clear p1 p2 hcd
  clear _ha hb hc hd h2 h3
  go_enter Try.func17, Try.ntmps17
  go_upto_region 32 with (first | (go_at_call 32; refine (hn _).mono ?_; rintro x w' ⟨rfl, rfl⟩) | (go_at_call 36; refine (hf _).mono ?_; rintro x w' ⟨rfl, rfl⟩) | (go_at_call 35; refine (refOf_any _ _).mono ?_; rintro x w' ⟨rfl, rfl⟩) | (go_at_call 27; refine (refEmpty_any _ _ _).mono ?_; rintro x w' ⟨rfl, rfl⟩) | (go_at_call 28; refine (refNone_any _).mono ?_; rintro x w' ⟨rfl, rfl⟩) | (go_at_call 34; refine (refOne_any _ _ _).mono ?_; rintro x w' ⟨rfl, rfl⟩))
  refine wp_world (fun w5 => At w5 (w.heap.size) #[.int .u64 a, .int .u64 b] ∧ At w5 (w.heap.size + 1) #[.int .u64 c, .int .u64 d] ∧ At w5 (w.heap.size + 1 + 1) #[.int .u64 0, .int .u64 0] ∧ At w5 (w.heap.size + 1 + 1 + 1 + 1 + 1 + 1 + 1) #[.int .u64 c, .int .u64 d] ∧ Gr w w5) ⟨?_, ?_, ?_, ?_, ?_⟩ ?_
  · repeat (first | exact At.new _ _ _ | refine At.alloc ?_ _)
  · repeat (first | (refine At.at_ _ _ _ ?_; simp; done) | refine At.alloc ?_ _)
  · repeat (first | (refine At.at_ _ _ _ ?_; simp; done) | refine At.alloc ?_ _)
  · repeat (first | (refine At.at_ _ _ _ ?_; simp; done) | refine At.alloc ?_ _)
  · repeat (first | exact Gr.refl _ | refine Gr.alloc ?_ _ | refine Gr.grow ?_ _ | refine Gr.drew ?_)
  rintro w5 ⟨A_a, A_c, A_t, A_k, hB⟩
  have ⟨z_a, q_a, _⟩ := A_a
  have ⟨z_c, q_c, _⟩ := A_c
  have ⟨z_t, q_t, _⟩ := A_t
  have ⟨z_k, q_k, _⟩ := A_k
  go_wp2_with fail
  refine (part _).mono ?_
  rintro x w6 ⟨rfl, hG⟩
  clear z_a q_a z_c q_c z_t q_t z_k q_k
  replace A_t := A_t.gr hG
  replace hB := hB.trans hG
  have ⟨z_t, q_t, f_t⟩ := A_t
  go_wp2_with fail
  simp [bodyPost, results, Try.results17, go_sem, *]
  repeat (first | exact hB | refine Gr.alloc ?_ _ | refine Gr.setCell ?_ _ _ _ (by omega))

set_option maxHeartbeats 1000000 in
theorem refApply_10f2 (a b c d : Int) (w : World) (_ha : W64 a) (hb : W64 b) (hc : W64 c) (hd : W64 d) (h2 : a ≤ b) (e1 : (a == b) = true) (h3 : c ≤ d) (e2 : (c == d) = false) :
    Calls Try.prog 17 #[.int .u8 10, .agg #[.int .u64 a, .int .u64 b], .agg #[.int .u64 c, .int .u64 d]] w fun x w' => x = .returned (.agg #[.int .u64 (allLo 10 a b c d), .int .u64 (allHi 10 a b c d)]) ∧ Gr w w' := by
  show Calls Try.prog 17 #[.int .u8 10, .agg #[.int .u64 a, .int .u64 b], .agg #[.int .u64 c, .int .u64 d]] w fun x w' => x = .returned (.agg #[.int .u64 (dnLo a c d), .int .u64 (dnHi b c d)]) ∧ Gr w w'
  have hn := fun w => refNum_any 10 a c w rfl hc.1
  have hf := fun w => fill_any b d w hb hd
  have d1 : decide (b < a) = false := by simp; omega
  have d2 : decide (d < c) = false := by simp; omega
  generalize one 10 a c = v at hn
  generalize ones b d = o1 at hf
  have part := fun w => refDown_any a b (plc c d c) (plc c d d) w (plc_n c d c hc.1) (plc_l c d h3)
  have hcd : ¬ c = d := by simpa using e2
  have p1 : plc c d c = c := by simp [plc, hcd]
  have p2 : plc c d d = d := by simp [plc, hcd]
  rw [p1, p2] at part
  unfold dnLo dnHi
  rw [p1, p2]
  generalize (if 64 ≤ d then 0 else a / 2 ^ d.toNat) = r1 at part ⊢
  generalize (if 64 ≤ d then b else b / 2 ^ c.toNat) = r2 at part ⊢
  clear p1 p2 hcd
  clear _ha hb hc hd h2 h3
  go_enter Try.func17, Try.ntmps17
  go_upto_region 32 with (first | (go_at_call 32; refine (hn _).mono ?_; rintro x w' ⟨rfl, rfl⟩) | (go_at_call 36; refine (hf _).mono ?_; rintro x w' ⟨rfl, rfl⟩) | (go_at_call 35; refine (refOf_any _ _).mono ?_; rintro x w' ⟨rfl, rfl⟩) | (go_at_call 27; refine (refEmpty_any _ _ _).mono ?_; rintro x w' ⟨rfl, rfl⟩) | (go_at_call 28; refine (refNone_any _).mono ?_; rintro x w' ⟨rfl, rfl⟩) | (go_at_call 34; refine (refOne_any _ _ _).mono ?_; rintro x w' ⟨rfl, rfl⟩))
  refine wp_world (fun w5 => At w5 (w.heap.size) #[.int .u64 a, .int .u64 b] ∧ At w5 (w.heap.size + 1) #[.int .u64 c, .int .u64 d] ∧ At w5 (w.heap.size + 1 + 1) #[.int .u64 0, .int .u64 0] ∧ At w5 (w.heap.size + 1 + 1 + 1 + 1 + 1 + 1 + 1) #[.int .u64 c, .int .u64 d] ∧ Gr w w5) ⟨?_, ?_, ?_, ?_, ?_⟩ ?_
  · repeat (first | exact At.new _ _ _ | refine At.alloc ?_ _)
  · repeat (first | (refine At.at_ _ _ _ ?_; simp; done) | refine At.alloc ?_ _)
  · repeat (first | (refine At.at_ _ _ _ ?_; simp; done) | refine At.alloc ?_ _)
  · repeat (first | (refine At.at_ _ _ _ ?_; simp; done) | refine At.alloc ?_ _)
  · repeat (first | exact Gr.refl _ | refine Gr.alloc ?_ _ | refine Gr.grow ?_ _ | refine Gr.drew ?_)
  rintro w5 ⟨A_a, A_c, A_t, A_k, hB⟩
  have ⟨z_a, q_a, _⟩ := A_a
  have ⟨z_c, q_c, _⟩ := A_c
  have ⟨z_t, q_t, _⟩ := A_t
  have ⟨z_k, q_k, _⟩ := A_k
  go_wp2_with fail
  refine (part _).mono ?_
  rintro x w6 ⟨rfl, hG⟩
  clear z_a q_a z_c q_c z_t q_t z_k q_k
  replace A_t := A_t.gr hG
  replace hB := hB.trans hG
  have ⟨z_t, q_t, f_t⟩ := A_t
  go_wp2_with fail
  simp [bodyPost, results, Try.results17, go_sem, *]
  repeat (first | exact hB | refine Gr.alloc ?_ _ | refine Gr.setCell ?_ _ _ _ (by omega))

theorem refApply_10f (a b c d : Int) (w : World) (ha : W64 a) (hb : W64 b) (hc : W64 c) (hd : W64 d) (h2 : a ≤ b) (h3 : c ≤ d) (e2 : (c == d) = false) :
    Calls Try.prog 17 #[.int .u8 10, .agg #[.int .u64 a, .int .u64 b], .agg #[.int .u64 c, .int .u64 d]] w fun x w' => x = .returned (.agg #[.int .u64 (allLo 10 a b c d), .int .u64 (allHi 10 a b c d)]) ∧ Gr w w' := by
  cases e1 : (a == b) with
  | false => exact refApply_10f1 a b c d w ha hb hc hd h2 e1 h3 e2
  | true => exact refApply_10f2 a b c d w ha hb hc hd h2 e1 h3 e2

set_option maxHeartbeats 1000000 in
theorem refApply_10t (a b c : Int) (w : World) (_ha : W64 a) (hb : W64 b) (hc : W64 c) (h2 : a ≤ b) (e1 : (a == b) = false) :
    Calls Try.prog 17 #[.int .u8 10, .agg #[.int .u64 a, .int .u64 b], .agg #[.int .u64 c, .int .u64 c]] w fun x w' => x = .returned (.agg #[.int .u64 (allLo 10 a b c c), .int .u64 (allHi 10 a b c c)]) ∧ Gr w w' := by
  show Calls Try.prog 17 #[.int .u8 10, .agg #[.int .u64 a, .int .u64 b], .agg #[.int .u64 c, .int .u64 c]] w fun x w' => x = .returned (.agg #[.int .u64 (dnLo a c c), .int .u64 (dnHi b c c)]) ∧ Gr w w'
  have h3 : c ≤ c := Int.le_refl c
  have hd := hc
  have hm : c.tmod 64 = c % 64 := Int.tmod_eq_emod_of_nonneg hc.1
  have hn := fun w => refNum_any 10 a c w rfl hc.1
  have hf := fun w => fill_any b c w hb hd
  have d1 : decide (b < a) = false := by simp; omega
  generalize one 10 a c = v at hn
  generalize ones b c = o1 at hf
  have part := fun w => refDown_any a b (plc c c c) (plc c c c) w (plc_n c c c hc.1) (plc_l c c h3)
  have p1 : plc c c c = c % 64 := by simp [plc]
  rw [p1] at part
  unfold dnLo dnHi
  rw [p1]
  generalize (if 64 ≤ (c % 64) then 0 else a / 2 ^ (c % 64).toNat) = r1 at part ⊢
  generalize (if 64 ≤ (c % 64) then b else b / 2 ^ (c % 64).toNat) = r2 at part ⊢
  clear p1
  clear _ha hb hc hd h2 h3
  go_enter Try.func17, Try.ntmps17
  go_upto_region 32 with (first | (go_at_call 32; refine (hn _).mono ?_; rintro x w' ⟨rfl, rfl⟩) | (go_at_call 36; refine (hf _).mono ?_; rintro x w' ⟨rfl, rfl⟩) | (go_at_call 35; refine (refOf_any _ _).mono ?_; rintro x w' ⟨rfl, rfl⟩) | (go_at_call 27; refine (refEmpty_any _ _ _).mono ?_; rintro x w' ⟨rfl, rfl⟩) | (go_at_call 28; refine (refNone_any _).mono ?_; rintro x w' ⟨rfl, rfl⟩) | (go_at_call 34; refine (refOne_any _ _ _).mono ?_; rintro x w' ⟨rfl, rfl⟩))
  refine wp_world (fun w5 => At w5 (w.heap.size) #[.int .u64 a, .int .u64 b] ∧ At w5 (w.heap.size + 1) #[.int .u64 c, .int .u64 c] ∧ At w5 (w.heap.size + 1 + 1) #[.int .u64 0, .int .u64 0] ∧ At w5 (w.heap.size + 1 + 1 + 1 + 1 + 1 + 1 + 1) #[.int .u64 (c % 64), .int .u64 (c % 64)] ∧ Gr w w5) ⟨?_, ?_, ?_, ?_, ?_⟩ ?_
  · repeat (first | exact At.new _ _ _ | refine At.alloc ?_ _)
  · repeat (first | (refine At.at_ _ _ _ ?_; simp; done) | refine At.alloc ?_ _)
  · repeat (first | (refine At.at_ _ _ _ ?_; simp; done) | refine At.alloc ?_ _)
  · repeat (first | (refine At.at_ _ _ _ ?_; simp; done) | refine At.alloc ?_ _)
  · repeat (first | exact Gr.refl _ | refine Gr.alloc ?_ _ | refine Gr.grow ?_ _ | refine Gr.drew ?_)
  rintro w5 ⟨A_a, A_c, A_t, A_k, hB⟩
  have ⟨z_a, q_a, _⟩ := A_a
  have ⟨z_c, q_c, _⟩ := A_c
  have ⟨z_t, q_t, _⟩ := A_t
  have ⟨z_k, q_k, _⟩ := A_k
  go_wp2_with fail
  refine (part _).mono ?_
  rintro x w6 ⟨rfl, hG⟩
  clear z_a q_a z_c q_c z_t q_t z_k q_k
  replace A_t := A_t.gr hG
  replace hB := hB.trans hG
  have ⟨z_t, q_t, f_t⟩ := A_t
  go_wp2_with fail
  simp [bodyPost, results, Try.results17, go_sem, *]
  repeat (first | exact hB | refine Gr.alloc ?_ _ | refine Gr.setCell ?_ _ _ _ (by omega))

set_option maxHeartbeats 1000000 in
theorem refApply_12f (a b c d : Int) (w : World) (_ha : W64 a) (hb : W64 b) (hc : W64 c) (hd : W64 d) (h2 : a ≤ b)  (h3 : c ≤ d) (e2 : (c == d) = false) :
    Calls Try.prog 17 #[.int .u8 12, .agg #[.int .u64 a, .int .u64 b], .agg #[.int .u64 c, .int .u64 d]] w fun x w' => x = .returned (.agg #[.int .u64 (allLo 12 a b c d), .int .u64 (allHi 12 a b c d)]) ∧ Gr w w' := by
  show Calls Try.prog 17 #[.int .u8 12, .agg #[.int .u64 a, .int .u64 b], .agg #[.int .u64 c, .int .u64 d]] w fun x w' => x = .returned (.agg #[.int .u64 (bwLo b c), .int .u64 (bwHi a b c d)]) ∧ Gr w w'
  have hn := fun w => refNum_any 12 a c w rfl hc.1
  have hf := fun w => fill_any b d w hb hd
  have d1 : decide (b < a) = false := by simp; omega
  have d2 : decide (d < c) = false := by simp; omega
  generalize one 12 a c = v at hn
  generalize ones b d = o1 at hf
  clear _ha hb hc hd
  go_enter Try.func17, Try.ntmps17
  go_wp2_with (first | (go_at_call 32; refine (hn _).mono ?_; rintro x w' ⟨rfl, rfl⟩) | (go_at_call 36; refine (hf _).mono ?_; rintro x w' ⟨rfl, rfl⟩) | (go_at_call 35; refine (refOf_any _ _).mono ?_; rintro x w' ⟨rfl, rfl⟩) | (go_at_call 27; refine (refEmpty_any _ _ _).mono ?_; rintro x w' ⟨rfl, rfl⟩) | (go_at_call 28; refine (refNone_any _).mono ?_; rintro x w' ⟨rfl, rfl⟩) | (go_at_call 34; refine (refOne_any _ _ _).mono ?_; rintro x w' ⟨rfl, rfl⟩))
  all_goals
    simp [bodyPost, results, Try.results17, go_sem]
    refine ⟨by unfold bwLo bwHi; refine ⟨?_, ?_⟩ <;> (repeat' split) <;> omega, ?_⟩
    repeat (first | exact Gr.refl _ | refine Gr.alloc ?_ _ | refine Gr.grow ?_ _ | refine Gr.drew ?_)

set_option maxHeartbeats 1000000 in
theorem refApply_12t (a b c : Int) (w : World) (_ha : W64 a) (hb : W64 b) (hc : W64 c) (h2 : a ≤ b) (e1 : (a == b) = false) :
    Calls Try.prog 17 #[.int .u8 12, .agg #[.int .u64 a, .int .u64 b], .agg #[.int .u64 c, .int .u64 c]] w fun x w' => x = .returned (.agg #[.int .u64 (allLo 12 a b c c), .int .u64 (allHi 12 a b c c)]) ∧ Gr w w' := by
  show Calls Try.prog 17 #[.int .u8 12, .agg #[.int .u64 a, .int .u64 b], .agg #[.int .u64 c, .int .u64 c]] w fun x w' => x = .returned (.agg #[.int .u64 (bwLo b c), .int .u64 (bwHi a b c c)]) ∧ Gr w w'
  have h3 : c ≤ c := Int.le_refl c
  have hd := hc
  have hm : c.tmod 64 = c % 64 := Int.tmod_eq_emod_of_nonneg hc.1
  have hn := fun w => refNum_any 12 a c w rfl hc.1
  have hf := fun w => fill_any b c w hb hd
  have d1 : decide (b < a) = false := by simp; omega
  generalize one 12 a c = v at hn
  generalize ones b c = o1 at hf
  clear _ha hb hc hd
  go_enter Try.func17, Try.ntmps17
  go_wp2_with (first | (go_at_call 32; refine (hn _).mono ?_; rintro x w' ⟨rfl, rfl⟩) | (go_at_call 36; refine (hf _).mono ?_; rintro x w' ⟨rfl, rfl⟩) | (go_at_call 35; refine (refOf_any _ _).mono ?_; rintro x w' ⟨rfl, rfl⟩) | (go_at_call 27; refine (refEmpty_any _ _ _).mono ?_; rintro x w' ⟨rfl, rfl⟩) | (go_at_call 28; refine (refNone_any _).mono ?_; rintro x w' ⟨rfl, rfl⟩) | (go_at_call 34; refine (refOne_any _ _ _).mono ?_; rintro x w' ⟨rfl, rfl⟩))
  all_goals
    simp [bodyPost, results, Try.results17, go_sem]
    refine ⟨by unfold bwLo bwHi; refine ⟨?_, ?_⟩ <;> (repeat' split) <;> omega, ?_⟩
    repeat (first | exact Gr.refl _ | refine Gr.alloc ?_ _ | refine Gr.grow ?_ _ | refine Gr.drew ?_)

set_option maxHeartbeats 1000000 in
theorem refApply_13f1 (a b c d : Int) (w : World) (_ha : W64 a) (hb : W64 b) (hc : W64 c) (hd : W64 d) (h2 : a ≤ b) (e1 : (a == b) = false) (h3 : c ≤ d) (e2 : (c == d) = false) :
    Calls Try.prog 17 #[.int .u8 13, .agg #[.int .u64 a, .int .u64 b], .agg #[.int .u64 c, .int .u64 d]] w fun x w' => x = .returned (.agg #[.int .u64 (allLo 13 a b c d), .int .u64 (allHi 13 a b c d)]) ∧ Gr w w' := by
  show Calls Try.prog 17 #[.int .u8 13, .agg #[.int .u64 a, .int .u64 b], .agg #[.int .u64 c, .int .u64 d]] w fun x w' => x = .returned (.agg #[.int .u64 (0), .int .u64 (eqHi a b c d)]) ∧ Gr w w'
  have hn := fun w => refNum_any 13 a c w rfl hc.1
  have hf := fun w => fill_any b d w hb hd
  have d1 : decide (b < a) = false := by simp; omega
  have d2 : decide (d < c) = false := by simp; omega
  generalize one 13 a c = v at hn
  generalize ones b d = o1 at hf
  have part := fun w => refMeet_any a b c d w
  have mo : mOk a b c d = decide (maxI a c ≤ minI b d) := rfl
  unfold eqHi
  by_cases g : minI b d < maxI a c
  · have mo' : mOk a b c d = false := by rw [mo]; simp; omega
    rw [mo'] at part
    rw [if_pos g]
    clear mo mo' g _ha hb hc hd h2 h3
    generalize mLo a b c d = r1 at part
    generalize mHi a b c d = r2 at part
    go_enter Try.func17, Try.ntmps17
    go_upto_region 39 with (first | (go_at_call 32; refine (hn _).mono ?_; rintro x w' ⟨rfl, rfl⟩) | (go_at_call 36; refine (hf _).mono ?_; rintro x w' ⟨rfl, rfl⟩) | (go_at_call 35; refine (refOf_any _ _).mono ?_; rintro x w' ⟨rfl, rfl⟩) | (go_at_call 27; refine (refEmpty_any _ _ _).mono ?_; rintro x w' ⟨rfl, rfl⟩) | (go_at_call 28; refine (refNone_any _).mono ?_; rintro x w' ⟨rfl, rfl⟩) | (go_at_call 34; refine (refOne_any _ _ _).mono ?_; rintro x w' ⟨rfl, rfl⟩))
    refine wp_world (fun w5 => At w5 (w.heap.size) #[.int .u64 a, .int .u64 b] ∧ At w5 (w.heap.size + 1) #[.int .u64 c, .int .u64 d] ∧ At w5 (w.heap.size + 1 + 1) #[.int .u64 0, .int .u64 0] ∧ Gr w w5) ⟨?_, ?_, ?_, ?_⟩ ?_
    · repeat (first | exact At.new _ _ _ | refine At.alloc ?_ _)
    · repeat (first | (refine At.at_ _ _ _ ?_; simp; done) | refine At.alloc ?_ _)
    · repeat (first | (refine At.at_ _ _ _ ?_; simp; done) | refine At.alloc ?_ _)
    · repeat (first | exact Gr.refl _ | refine Gr.alloc ?_ _ | refine Gr.grow ?_ _ | refine Gr.drew ?_)
    rintro w5 ⟨A_a, A_c, A_t, hB⟩
    have ⟨z_a, q_a, _⟩ := A_a
    have ⟨z_c, q_c, _⟩ := A_c
    have ⟨z_t, q_t, _⟩ := A_t
    go_wp2_with fail
    refine (part _).mono ?_
    rintro x w6 ⟨rfl, hG⟩
    clear z_a q_a z_c q_c z_t q_t
    replace A_t := A_t.gr hG
    replace hB := hB.trans hG
    have ⟨z_t, q_t, f_t⟩ := A_t
    have z1 : w.heap.size + 1 + 1 < w6.heap.size + 1 := by omega
    have z2 : w.heap.size + 1 + 1 < w6.heap.size + 1 + 1 := by omega
    go_wp2_with (go_at_call 35; refine (refOf_any _ _).mono ?_; rintro x w' ⟨rfl, rfl⟩)
    simp [bodyPost, results, Try.results17, go_sem, *]
    repeat (first | exact hB | refine Gr.alloc ?_ _ | refine Gr.setCell ?_ _ _ _ (by omega))
  · have mo' : mOk a b c d = true := by rw [mo]; simp; omega
    rw [mo'] at part
    rw [if_neg g]
    clear mo mo' g _ha hb hc hd h2 h3
    generalize mLo a b c d = r1 at part
    generalize mHi a b c d = r2 at part
    go_enter Try.func17, Try.ntmps17
    go_upto_region 39 with (first | (go_at_call 32; refine (hn _).mono ?_; rintro x w' ⟨rfl, rfl⟩) | (go_at_call 36; refine (hf _).mono ?_; rintro x w' ⟨rfl, rfl⟩) | (go_at_call 35; refine (refOf_any _ _).mono ?_; rintro x w' ⟨rfl, rfl⟩) | (go_at_call 27; refine (refEmpty_any _ _ _).mono ?_; rintro x w' ⟨rfl, rfl⟩) | (go_at_call 28; refine (refNone_any _).mono ?_; rintro x w' ⟨rfl, rfl⟩) | (go_at_call 34; refine (refOne_any _ _ _).mono ?_; rintro x w' ⟨rfl, rfl⟩))
    refine wp_world (fun w5 => At w5 (w.heap.size) #[.int .u64 a, .int .u64 b] ∧ At w5 (w.heap.size + 1) #[.int .u64 c, .int .u64 d] ∧ At w5 (w.heap.size + 1 + 1) #[.int .u64 0, .int .u64 0] ∧ Gr w w5) ⟨?_, ?_, ?_, ?_⟩ ?_
    · repeat (first | exact At.new _ _ _ | refine At.alloc ?_ _)
    · repeat (first | (refine At.at_ _ _ _ ?_; simp; done) | refine At.alloc ?_ _)
    · repeat (first | (refine At.at_ _ _ _ ?_; simp; done) | refine At.alloc ?_ _)
    · repeat (first | exact Gr.refl _ | refine Gr.alloc ?_ _ | refine Gr.grow ?_ _ | refine Gr.drew ?_)
    rintro w5 ⟨A_a, A_c, A_t, hB⟩
    have ⟨z_a, q_a, _⟩ := A_a
    have ⟨z_c, q_c, _⟩ := A_c
    have ⟨z_t, q_t, _⟩ := A_t
    go_wp2_with fail
    refine (part _).mono ?_
    rintro x w6 ⟨rfl, hG⟩
    clear z_a q_a z_c q_c z_t q_t
    replace A_t := A_t.gr hG
    replace hB := hB.trans hG
    have ⟨z_t, q_t, f_t⟩ := A_t
    have z1 : w.heap.size + 1 + 1 < w6.heap.size + 1 := by omega
    have z2 : w.heap.size + 1 + 1 < w6.heap.size + 1 + 1 := by omega
    go_wp2_with (go_at_call 35; refine (refOf_any _ _).mono ?_; rintro x w' ⟨rfl, rfl⟩)
    simp [bodyPost, results, Try.results17, go_sem, *]
    repeat (first | exact hB | refine Gr.alloc ?_ _ | refine Gr.setCell ?_ _ _ _ (by omega))

set_option maxHeartbeats 1000000 in
theorem refApply_13f2 (a b c d : Int) (w : World) (_ha : W64 a) (hb : W64 b) (hc : W64 c) (hd : W64 d) (h2 : a ≤ b) (e1 : (a == b) = true) (h3 : c ≤ d) (e2 : (c == d) = false) :
    Calls Try.prog 17 #[.int .u8 13, .agg #[.int .u64 a, .int .u64 b], .agg #[.int .u64 c, .int .u64 d]] w fun x w' => x = .returned (.agg #[.int .u64 (allLo 13 a b c d), .int .u64 (allHi 13 a b c d)]) ∧ Gr w w' := by
  show Calls Try.prog 17 #[.int .u8 13, .agg #[.int .u64 a, .int .u64 b], .agg #[.int .u64 c, .int .u64 d]] w fun x w' => x = .returned (.agg #[.int .u64 (0), .int .u64 (eqHi a b c d)]) ∧ Gr w w'
  have hn := fun w => refNum_any 13 a c w rfl hc.1
  have hf := fun w => fill_any b d w hb hd
  have d1 : decide (b < a) = false := by simp; omega
  have d2 : decide (d < c) = false := by simp; omega
  generalize one 13 a c = v at hn
  generalize ones b d = o1 at hf
  have part := fun w => refMeet_any a b c d w
  have mo : mOk a b c d = decide (maxI a c ≤ minI b d) := rfl
  unfold eqHi
  by_cases g : minI b d < maxI a c
  · have mo' : mOk a b c d = false := by rw [mo]; simp; omega
    rw [mo'] at part
    rw [if_pos g]
    clear mo mo' g _ha hb hc hd h2 h3
    generalize mLo a b c d = r1 at part
    generalize mHi a b c d = r2 at part
    go_enter Try.func17, Try.ntmps17
    go_upto_region 39 with (first | (go_at_call 32; refine (hn _).mono ?_; rintro x w' ⟨rfl, rfl⟩) | (go_at_call 36; refine (hf _).mono ?_; rintro x w' ⟨rfl, rfl⟩) | (go_at_call 35; refine (refOf_any _ _).mono ?_; rintro x w' ⟨rfl, rfl⟩) | (go_at_call 27; refine (refEmpty_any _ _ _).mono ?_; rintro x w' ⟨rfl, rfl⟩) | (go_at_call 28; refine (refNone_any _).mono ?_; rintro x w' ⟨rfl, rfl⟩) | (go_at_call 34; refine (refOne_any _ _ _).mono ?_; rintro x w' ⟨rfl, rfl⟩))
    refine wp_world (fun w5 => At w5 (w.heap.size) #[.int .u64 a, .int .u64 b] ∧ At w5 (w.heap.size + 1) #[.int .u64 c, .int .u64 d] ∧ At w5 (w.heap.size + 1 + 1) #[.int .u64 0, .int .u64 0] ∧ Gr w w5) ⟨?_, ?_, ?_, ?_⟩ ?_
    · repeat (first | exact At.new _ _ _ | refine At.alloc ?_ _)
    · repeat (first | (refine At.at_ _ _ _ ?_; simp; done) | refine At.alloc ?_ _)
    · repeat (first | (refine At.at_ _ _ _ ?_; simp; done) | refine At.alloc ?_ _)
    · repeat (first | exact Gr.refl _ | refine Gr.alloc ?_ _ | refine Gr.grow ?_ _ | refine Gr.drew ?_)
    rintro w5 ⟨A_a, A_c, A_t, hB⟩
    have ⟨z_a, q_a, _⟩ := A_a
    have ⟨z_c, q_c, _⟩ := A_c
    have ⟨z_t, q_t, _⟩ := A_t
    go_wp2_with fail
    refine (part _).mono ?_
    rintro x w6 ⟨rfl, hG⟩
    clear z_a q_a z_c q_c z_t q_t
    replace A_t := A_t.gr hG
    replace hB := hB.trans hG
    have ⟨z_t, q_t, f_t⟩ := A_t
    have z1 : w.heap.size + 1 + 1 < w6.heap.size + 1 := by omega
    have z2 : w.heap.size + 1 + 1 < w6.heap.size + 1 + 1 := by omega
    go_wp2_with (go_at_call 35; refine (refOf_any _ _).mono ?_; rintro x w' ⟨rfl, rfl⟩)
    simp [bodyPost, results, Try.results17, go_sem, *]
    repeat (first | exact hB | refine Gr.alloc ?_ _ | refine Gr.setCell ?_ _ _ _ (by omega))
  · have mo' : mOk a b c d = true := by rw [mo]; simp; omega
    rw [mo'] at part
    rw [if_neg g]
    clear mo mo' g _ha hb hc hd h2 h3
    generalize mLo a b c d = r1 at part
    generalize mHi a b c d = r2 at part
    go_enter Try.func17, Try.ntmps17
    go_upto_region 39 with (first | (go_at_call 32; refine (hn _).mono ?_; rintro x w' ⟨rfl, rfl⟩) | (go_at_call 36; refine (hf _).mono ?_; rintro x w' ⟨rfl, rfl⟩) | (go_at_call 35; refine (refOf_any _ _).mono ?_; rintro x w' ⟨rfl, rfl⟩) | (go_at_call 27; refine (refEmpty_any _ _ _).mono ?_; rintro x w' ⟨rfl, rfl⟩) | (go_at_call 28; refine (refNone_any _).mono ?_; rintro x w' ⟨rfl, rfl⟩) | (go_at_call 34; refine (refOne_any _ _ _).mono ?_; rintro x w' ⟨rfl, rfl⟩))
    refine wp_world (fun w5 => At w5 (w.heap.size) #[.int .u64 a, .int .u64 b] ∧ At w5 (w.heap.size + 1) #[.int .u64 c, .int .u64 d] ∧ At w5 (w.heap.size + 1 + 1) #[.int .u64 0, .int .u64 0] ∧ Gr w w5) ⟨?_, ?_, ?_, ?_⟩ ?_
    · repeat (first | exact At.new _ _ _ | refine At.alloc ?_ _)
    · repeat (first | (refine At.at_ _ _ _ ?_; simp; done) | refine At.alloc ?_ _)
    · repeat (first | (refine At.at_ _ _ _ ?_; simp; done) | refine At.alloc ?_ _)
    · repeat (first | exact Gr.refl _ | refine Gr.alloc ?_ _ | refine Gr.grow ?_ _ | refine Gr.drew ?_)
    rintro w5 ⟨A_a, A_c, A_t, hB⟩
    have ⟨z_a, q_a, _⟩ := A_a
    have ⟨z_c, q_c, _⟩ := A_c
    have ⟨z_t, q_t, _⟩ := A_t
    go_wp2_with fail
    refine (part _).mono ?_
    rintro x w6 ⟨rfl, hG⟩
    clear z_a q_a z_c q_c z_t q_t
    replace A_t := A_t.gr hG
    replace hB := hB.trans hG
    have ⟨z_t, q_t, f_t⟩ := A_t
    have z1 : w.heap.size + 1 + 1 < w6.heap.size + 1 := by omega
    have z2 : w.heap.size + 1 + 1 < w6.heap.size + 1 + 1 := by omega
    go_wp2_with (go_at_call 35; refine (refOf_any _ _).mono ?_; rintro x w' ⟨rfl, rfl⟩)
    simp [bodyPost, results, Try.results17, go_sem, *]
    repeat (first | exact hB | refine Gr.alloc ?_ _ | refine Gr.setCell ?_ _ _ _ (by omega))

theorem refApply_13f (a b c d : Int) (w : World) (ha : W64 a) (hb : W64 b) (hc : W64 c) (hd : W64 d) (h2 : a ≤ b) (h3 : c ≤ d) (e2 : (c == d) = false) :
    Calls Try.prog 17 #[.int .u8 13, .agg #[.int .u64 a, .int .u64 b], .agg #[.int .u64 c, .int .u64 d]] w fun x w' => x = .returned (.agg #[.int .u64 (allLo 13 a b c d), .int .u64 (allHi 13 a b c d)]) ∧ Gr w w' := by
  cases e1 : (a == b) with
  | false => exact refApply_13f1 a b c d w ha hb hc hd h2 e1 h3 e2
  | true => exact refApply_13f2 a b c d w ha hb hc hd h2 e1 h3 e2

set_option maxHeartbeats 1000000 in
theorem refApply_13t (a b c : Int) (w : World) (_ha : W64 a) (hb : W64 b) (hc : W64 c) (h2 : a ≤ b) (e1 : (a == b) = false) :
    Calls Try.prog 17 #[.int .u8 13, .agg #[.int .u64 a, .int .u64 b], .agg #[.int .u64 c, .int .u64 c]] w fun x w' => x = .returned (.agg #[.int .u64 (allLo 13 a b c c), .int .u64 (allHi 13 a b c c)]) ∧ Gr w w' := by
  show Calls Try.prog 17 #[.int .u8 13, .agg #[.int .u64 a, .int .u64 b], .agg #[.int .u64 c, .int .u64 c]] w fun x w' => x = .returned (.agg #[.int .u64 (0), .int .u64 (eqHi a b c c)]) ∧ Gr w w'
  have h3 : c ≤ c := Int.le_refl c
  have hd := hc
  have hm : c.tmod 64 = c % 64 := Int.tmod_eq_emod_of_nonneg hc.1
  have hn := fun w => refNum_any 13 a c w rfl hc.1
  have hf := fun w => fill_any b c w hb hd
  have d1 : decide (b < a) = false := by simp; omega
  generalize one 13 a c = v at hn
  generalize ones b c = o1 at hf
  have part := fun w => refMeet_any a b c c w
  have mo : mOk a b c c = decide (maxI a c ≤ minI b c) := rfl
  unfold eqHi
  by_cases g : minI b c < maxI a c
  · have mo' : mOk a b c c = false := by rw [mo]; simp; omega
    rw [mo'] at part
    rw [if_pos g]
    clear mo mo' g _ha hb hc hd h2 h3
    generalize mLo a b c c = r1 at part
    generalize mHi a b c c = r2 at part
    go_enter Try.func17, Try.ntmps17
    go_upto_region 39 with (first | (go_at_call 32; refine (hn _).mono ?_; rintro x w' ⟨rfl, rfl⟩) | (go_at_call 36; refine (hf _).mono ?_; rintro x w' ⟨rfl, rfl⟩) | (go_at_call 35; refine (refOf_any _ _).mono ?_; rintro x w' ⟨rfl, rfl⟩) | (go_at_call 27; refine (refEmpty_any _ _ _).mono ?_; rintro x w' ⟨rfl, rfl⟩) | (go_at_call 28; refine (refNone_any _).mono ?_; rintro x w' ⟨rfl, rfl⟩) | (go_at_call 34; refine (refOne_any _ _ _).mono ?_; rintro x w' ⟨rfl, rfl⟩))
    refine wp_world (fun w5 => At w5 (w.heap.size) #[.int .u64 a, .int .u64 b] ∧ At w5 (w.heap.size + 1) #[.int .u64 c, .int .u64 c] ∧ At w5 (w.heap.size + 1 + 1) #[.int .u64 0, .int .u64 0] ∧ Gr w w5) ⟨?_, ?_, ?_, ?_⟩ ?_
    · repeat (first | exact At.new _ _ _ | refine At.alloc ?_ _)
    · repeat (first | (refine At.at_ _ _ _ ?_; simp; done) | refine At.alloc ?_ _)
    · repeat (first | (refine At.at_ _ _ _ ?_; simp; done) | refine At.alloc ?_ _)
    · repeat (first | exact Gr.refl _ | refine Gr.alloc ?_ _ | refine Gr.grow ?_ _ | refine Gr.drew ?_)
    rintro w5 ⟨A_a, A_c, A_t, hB⟩
    have ⟨z_a, q_a, _⟩ := A_a
    have ⟨z_c, q_c, _⟩ := A_c
    have ⟨z_t, q_t, _⟩ := A_t
    go_wp2_with fail
    refine (part _).mono ?_
    rintro x w6 ⟨rfl, hG⟩
    clear z_a q_a z_c q_c z_t q_t
    replace A_t := A_t.gr hG
    replace hB := hB.trans hG
    have ⟨z_t, q_t, f_t⟩ := A_t
    have z1 : w.heap.size + 1 + 1 < w6.heap.size + 1 := by omega
    have z2 : w.heap.size + 1 + 1 < w6.heap.size + 1 + 1 := by omega
    go_wp2_with (go_at_call 35; refine (refOf_any _ _).mono ?_; rintro x w' ⟨rfl, rfl⟩)
    simp [bodyPost, results, Try.results17, go_sem, *]
    repeat (first | exact hB | refine Gr.alloc ?_ _ | refine Gr.setCell ?_ _ _ _ (by omega))
  · have mo' : mOk a b c c = true := by rw [mo]; simp; omega
    rw [mo'] at part
    rw [if_neg g]
    clear mo mo' g _ha hb hc hd h2 h3
    generalize mLo a b c c = r1 at part
    generalize mHi a b c c = r2 at part
    go_enter Try.func17, Try.ntmps17
    go_upto_region 39 with (first | (go_at_call 32; refine (hn _).mono ?_; rintro x w' ⟨rfl, rfl⟩) | (go_at_call 36; refine (hf _).mono ?_; rintro x w' ⟨rfl, rfl⟩) | (go_at_call 35; refine (refOf_any _ _).mono ?_; rintro x w' ⟨rfl, rfl⟩) | (go_at_call 27; refine (refEmpty_any _ _ _).mono ?_; rintro x w' ⟨rfl, rfl⟩) | (go_at_call 28; refine (refNone_any _).mono ?_; rintro x w' ⟨rfl, rfl⟩) | (go_at_call 34; refine (refOne_any _ _ _).mono ?_; rintro x w' ⟨rfl, rfl⟩))
    refine wp_world (fun w5 => At w5 (w.heap.size) #[.int .u64 a, .int .u64 b] ∧ At w5 (w.heap.size + 1) #[.int .u64 c, .int .u64 c] ∧ At w5 (w.heap.size + 1 + 1) #[.int .u64 0, .int .u64 0] ∧ Gr w w5) ⟨?_, ?_, ?_, ?_⟩ ?_
    · repeat (first | exact At.new _ _ _ | refine At.alloc ?_ _)
    · repeat (first | (refine At.at_ _ _ _ ?_; simp; done) | refine At.alloc ?_ _)
    · repeat (first | (refine At.at_ _ _ _ ?_; simp; done) | refine At.alloc ?_ _)
    · repeat (first | exact Gr.refl _ | refine Gr.alloc ?_ _ | refine Gr.grow ?_ _ | refine Gr.drew ?_)
    rintro w5 ⟨A_a, A_c, A_t, hB⟩
    have ⟨z_a, q_a, _⟩ := A_a
    have ⟨z_c, q_c, _⟩ := A_c
    have ⟨z_t, q_t, _⟩ := A_t
    go_wp2_with fail
    refine (part _).mono ?_
    rintro x w6 ⟨rfl, hG⟩
    clear z_a q_a z_c q_c z_t q_t
    replace A_t := A_t.gr hG
    replace hB := hB.trans hG
    have ⟨z_t, q_t, f_t⟩ := A_t
    have z1 : w.heap.size + 1 + 1 < w6.heap.size + 1 := by omega
    have z2 : w.heap.size + 1 + 1 < w6.heap.size + 1 + 1 := by omega
    go_wp2_with (go_at_call 35; refine (refOf_any _ _).mono ?_; rintro x w' ⟨rfl, rfl⟩)
    simp [bodyPost, results, Try.results17, go_sem, *]
    repeat (first | exact hB | refine Gr.alloc ?_ _ | refine Gr.setCell ?_ _ _ _ (by omega))

end Go.Proofs.Ytdlfmifkjmajpab
