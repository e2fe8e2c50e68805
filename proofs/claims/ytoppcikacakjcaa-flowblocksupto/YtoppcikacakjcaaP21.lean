import Derived.Test.YtoppcikacakjcaaP20
/-
  Stage 8, flow: what was lent is as it was.
-/
namespace Go.Proofs.Ytoppcikacakjcaa
namespace F
open Go.RowKit
open T

theorem bel_drewN {B : Nat} {a w : World} (h : Below B a w) (n : Nat) : Below B a (w.drewN n) := h.trans ⟨rfl, rfl, rfl, Nat.le_refl _, fun _ _ => rfl⟩
set_option maxRecDepth 100000 in
set_option maxHeartbeats 4000000 in
theorem givenInts_any (E : List Int) (ea : Option Addr) (ec g : Nat) (w : World) (hE : NIn w.heap.size w ea E) (h : At w g (numA (E ++ mkN))) (he : E.length ≤ 1900000) :
    Calls Try.prog 9 #[.slice (some ⟨g, 0, none⟩) E.length (E.length + 8), .slice ea E.length ec] w fun e w' => e = .returned (.bool true) ∧ Below w.heap.size w w' := by
  have hc1 : ∀ j (hj : j < E.length), w.cell? ⟨g, j, none⟩ = some (.int .i64 E[j]) := fun j hj => by
    rw [numA_at h j (by simp; omega), List.getElem_append_left hj]
  have hc2 : ∀ j, E.length ≤ j → j < E.length + 8 → w.cell? ⟨g, j, none⟩ = some (.int .i64 (-99)) := fun j h1 h2 => by
    rw [numA_at h j (by simp [mkN]; omega), List.getElem_append_right h1]
    have : ∀ k, k < 8 → mkN[k]? = some (-99) := by
      intro k hk
      obtain rfl | rfl | rfl | rfl | rfl | rfl | rfl | rfl : k = 0 ∨ k = 1 ∨ k = 2 ∨ k = 3 ∨ k = 4 ∨ k = 5 ∨ k = 6 ∨ k = 7 := by omega
      all_goals rfl
    have h3 := this (j - E.length) (by omega)
    rw [List.getElem?_eq_some_iff] at h3
    obtain ⟨_, h3⟩ := h3
    rw [h3]
  have hgl := h.1
  replace hE := Hid.mk hE
  replace h := Hid.mk h
  replace hc1 := Hid.mk hc1
  replace hc2 := Hid.mk hc2
  go_enter Try.func9, Try.ntmps9
  go_wp2_with fail
  go_loopw [6] (fun x wr => ∃ j : Nat, x = .int .i64 j ∧ j ≤ E.length + 8 ∧ Hid (Below w.heap.size w wr)) (fun x _ => E.length + 8 - (intOf x).toNat)
  case atStart => exact ⟨0, rfl, by omega, Hid.mk (Below.refl _ _)⟩
  case round =>
    obtain ⟨j, rfl, hj, hI⟩ := hrel
    by_cases hlt : j < E.length + 8
    · have hi1 : (j : Int) < (E.length : Int) + 8 := by omega
      by_cases hje : j < E.length
      · obtain ⟨b', off, rfl, hb0', hb1, hcj⟩ := hE.out j hje
        have z1 := (hI.out.cell (p := ⟨b', off + j, none⟩) hb0').trans hcj
        have z2 := (hI.out.cell (p := ⟨g, j, none⟩) hgl).trans (hc1.out j hje)
        have hi2 : (j : Int) < (E.length : Int) := by omega
        have hi3 : ¬ (E.length : Int) ≤ j := by omega
        generalize E[j] = y at *
        have hbb : (y != y) = false := by simp
        have hde : decide (E.length ≤ j) = false := by simp; omega
        clear hcj
        go_wp2_with fail
        go_quiet (fail)
        go_wp2_with fail
        go_roundw
        all_goals first | exact ⟨j + 1, by simp, by omega, Hid.mk (bel_drewN hI.out _)⟩ | (simp only [intOf]; omega)
      · have z2 := (hI.out.cell (p := ⟨g, j, none⟩) hgl).trans (hc2.out j (by omega) hlt)
        have hi2 : ¬ (j : Int) < (E.length : Int) := by omega
        have hi3 : (E.length : Int) ≤ j := by omega
        go_wp2_with fail
        go_quiet (fail)
        go_wp2_with fail
        go_roundw
        all_goals first | exact ⟨j + 1, by simp, by omega, Hid.mk (bel_drewN hI.out _)⟩ | (simp only [intOf]; omega)
    · have hi1 : ¬ (j : Int) < (E.length : Int) + 8 := by omega
      go_wp2_with fail
      go_ret
      exact ⟨rfl, hI.out⟩
end F
end Go.Proofs.Ytoppcikacakjcaa


/-
  Stage 8, flow: code lent.
-/
namespace Go.Proofs.Ytoppcikacakjcaa
namespace F
open Go.RowKit
open T

def mark : Ins := ⟨99, 7, 0, 0, 0⟩
def zeI : Ins := ⟨0, 0, 0, 0, 0⟩
def insA (l : List Ins) : Array Value := (flat l).toArray
theorem insA_size (l : List Ins) : (insA l).size = l.length * 5 := by simp [insA, flat_length]
theorem insA_at {w : World} {g : Nat} {l : List Ins} (h : At w g (insA l)) (k : Nat) (hk : k < l.length) : Five w g (k * 5) l[k] := by
  have hc : ∀ j, j < 5 → w.cell? ⟨g, k * 5 + j, none⟩ = (l[k]).vals[j]? := fun j hj => by
    rw [h.2.1]
    show (flat l).toArray[k * 5 + j]? = _
    rw [List.getElem?_toArray, flat_get l k j hk hj]
  exact ⟨hc 0 (by omega), hc 1 (by omega), hc 2 (by omega), hc 3 (by omega), hc 4 (by omega)⟩
theorem flat_set (l : List Ins) (k : Nat) (x : Ins) (hk : k < l.length) : flat (l.set k x) = (((((flat l).set (k * 5) (.int .u8 x.op)).set (k * 5 + 1) (.int .i64 x.a)).set (k * 5 + 1 + 1) (.int .i64 x.b)).set (k * 5 + 1 + 1 + 1) (.int .i64 x.c)).set (k * 5 + 1 + 1 + 1 + 1) (.int .i64 x.m) := by
  induction l generalizing k with
  | nil => simp at hk
  | cons y l ih =>
    have e : ∀ (z : Ins) (l : List Ins), flat (z :: l) = .int .u8 z.op :: .int .i64 z.a :: .int .i64 z.b :: .int .i64 z.c :: .int .i64 z.m :: flat l := fun z l => by simp [flat, Ins.vals]
    cases k with
    | zero => simp [e]
    | succ k =>
      have := ih k (by simpa using hk)
      rw [List.set_cons_succ, e, e, this]
      rw [show (k + 1) * 5 = k * 5 + 1 + 1 + 1 + 1 + 1 by omega]
      simp only [List.set_cons_succ]
theorem insA_put {w : World} {g : Nat} {l : List Ins} (h : At w g (insA l)) (k : Nat) (x : Ins) (hk : k < l.length) :
    At (((((w.setCell ⟨g, k * 5, none⟩ (.int .u8 x.op)).setCell ⟨g, k * 5 + 1, none⟩ (.int .i64 x.a)).setCell ⟨g, k * 5 + 1 + 1, none⟩ (.int .i64 x.b)).setCell ⟨g, k * 5 + 1 + 1 + 1, none⟩ (.int .i64 x.c)).setCell ⟨g, k * 5 + 1 + 1 + 1 + 1, none⟩ (.int .i64 x.m)) g (insA (l.set k x)) := by
  have hs := insA_size l
  have h1 := h.set (k * 5) (.int .u8 x.op) (by omega)
  have h2 := h1.set (k * 5 + 1) (.int .i64 x.a) (by simp; omega)
  have h3 := h2.set (k * 5 + 1 + 1) (.int .i64 x.b) (by simp; omega)
  have h4 := h3.set (k * 5 + 1 + 1 + 1) (.int .i64 x.c) (by simp; omega)
  have h5 := h4.set (k * 5 + 1 + 1 + 1 + 1) (.int .i64 x.m) (by simp; omega)
  have e : insA (l.set k x) = (((((insA l).setIfInBounds (k * 5) (.int .u8 x.op)).setIfInBounds (k * 5 + 1) (.int .i64 x.a)).setIfInBounds (k * 5 + 1 + 1) (.int .i64 x.b)).setIfInBounds (k * 5 + 1 + 1 + 1) (.int .i64 x.c)).setIfInBounds (k * 5 + 1 + 1 + 1 + 1) (.int .i64 x.m) := by
    unfold insA
    rw [flat_set l k x hk]
    simp
  rw [e]
  exact h5
theorem lin_front {w : World} {g : Nat} {L M : List Ins} (h : At w g (insA (L ++ M))) : LIn (g + 1) w (some ⟨g, 0, none⟩) L := fun i hi => by
  refine ⟨g, 0, rfl, Nat.lt_succ_self _, h.1, ?_⟩
  have := insA_at h i (by simp; omega)
  rw [List.getElem_append_left hi] at this
  rw [Nat.zero_add]
  exact this
theorem flat_rep (n : Nat) (x : Ins) : ∀ i, i < n * 5 → (flat (List.replicate n x))[i]? = x.vals[i % 5]? := fun i hi => by
  have hq : i / 5 < n := by omega
  have := flat_get (List.replicate n x) (i / 5) (i % 5) (by simpa using hq) (Nat.mod_lt _ (by omega))
  rw [show i / 5 * 5 + i % 5 = i by omega] at this
  rw [this]
  simp
theorem made_ins (n : Nat) : madeCells (Value.cells (.agg #[.int .u8 0, .int .i64 0, .int .i64 0, .int .i64 0, .int .i64 0])) (n * 5) = insA (List.replicate n zeI) := by
  apply Array.ext_getElem?
  intro i
  have e2 : Value.cells (.agg #[.int .u8 0, .int .i64 0, .int .i64 0, .int .i64 0, .int .i64 0]) = #[.int .u8 0, .int .i64 0, .int .i64 0, .int .i64 0, .int .i64 0] := rfl
  by_cases h : i < n * 5
  · have e3 : (insA (List.replicate n zeI))[i]? = zeI.vals[i % 5]? := by
      show (flat (List.replicate n zeI)).toArray[i]? = _
      rw [List.getElem?_toArray, flat_rep n zeI i h]
    rw [e3, e2]
    simp only [madeCells, Array.getElem?_map, Array.getElem?_range, h, if_true, Option.map_some]
    have hm : i % 5 = 0 ∨ i % 5 = 1 ∨ i % 5 = 2 ∨ i % 5 = 3 ∨ i % 5 = 4 := by omega
    show some ((#[Value.int .u8 0, .int .i64 0, .int .i64 0, .int .i64 0, .int .i64 0] : Array Value)[i % 5]!) = _
    rcases hm with r | r | r | r | r <;> rw [r] <;> rfl
  · rw [Array.getElem?_eq_none (by simp [madeCells]; omega), Array.getElem?_eq_none (by rw [insA_size]; simp; omega)]
theorem make_insts (n : Nat) (hn : n ≤ 2000000) (w : World) : (Instr.makeSlice 22 (.int .i64 n) (.int .i64 n)).run Try.prog w = .ok (.slice (some ⟨w.heap.size, 0, none⟩) n n) (w.alloc (.cells (insA (List.replicate n zeI)) 49)) := by
  obtain ⟨i0, hi0, hz0, hz1, hz2⟩ := info_parts' (t := 49) (z := .agg #[.int .u8 0, .int .i64 0, .int .i64 0, .int .i64 0, .int .i64 0]) (s := 5) (b := 40) (by kernel_rfl)
  have h := run_make (P := Try.prog) w 22 49 i0 (.agg #[.int .u8 0, .int .i64 0, .int .i64 0, .int .i64 0, .int .i64 0]) Try.underlying22 hi0 hz0 .i64 .i64 n n (by omega) (by omega) (by rw [hz2]; omega) (by omega)
  rw [hz1, Int.toNat_natCast, made_ins] at h
  exact h
theorem copy_insts {w : World} {g : Nat} {l L : List Ins} {ca : Option Addr} {cc : Nat} (ty : TypeId) (h : At w g (insA l)) (hL : LIn w.heap.size w ca L) (hnil : NilOk ca L.length cc) (hl : l.length = L.length + 8) :
    (Builtin.copy_ #[22, 22] ty #[.slice (some ⟨g, 0, none⟩) (L.length + 8) (L.length + 8), .slice ca L.length cc]).run Try.prog w = .ok (goInt L.length) (w.setCells g 0 (flat L)) := by
  obtain ⟨i0, hi0, hz0, hz1, hz2⟩ := info_parts' (t := 49) (z := .agg #[.int .u8 0, .int .i64 0, .int .i64 0, .int .i64 0, .int .i64 0]) (s := 5) (b := 40) (by kernel_rfl)
  cases ca with
  | none =>
    obtain ⟨h0, rfl⟩ := hnil rfl
    have e0 : L = [] := List.length_eq_zero_iff.1 h0
    subst e0
    exact run_copy_nil (P := Try.prog) w 22 22 ty 49 ⟨g, 0, none⟩ 8 8 Try.underlying22 (by rw [hi0]; rfl)
  | some ad =>
    have hmin : Nat.min L.length (L.length + 8) = L.length := Nat.min_eq_left (by omega)
    have hsz := insA_size l
    have := run_copy_k (P := Try.prog) w 22 22 ty 49 5 g 0 (L.length + 8) (L.length + 8) ad L.length cc (flat L) Try.underlying22 (by rw [hi0]; simp [hz1]) (by rw [hmin]; exact flat_length L) (fun j v hj => ?_) (fun j hj => ?_) (fun j hj => h.2.2 _) (fun v hv => ?_)
    · rw [hmin] at this
      exact this
    · have hjl : j < L.length * 5 := by have := (List.getElem?_eq_some_iff.1 hj).1; rwa [flat_length] at this
      have hq : j / 5 < L.length := by omega
      have hm : j % 5 < 5 := Nat.mod_lt _ (by omega)
      obtain ⟨b, off, e, _, _, hc⟩ := hL (j / 5) hq
      cases e
      have hg := flat_get L (j / 5) (j % 5) hq hm
      rw [show j / 5 * 5 + j % 5 = j by omega, hj] at hg
      rw [addr_add]
      obtain ⟨c0, c1, c2, c3, c4⟩ := hc
      have hm2 : j % 5 = 0 ∨ j % 5 = 1 ∨ j % 5 = 2 ∨ j % 5 = 3 ∨ j % 5 = 4 := by omega
      rcases hm2 with r | r | r | r | r <;> rw [r] at hg
      · rw [show off + j = off + j / 5 * 5 by omega, c0]; exact hg.symm
      · rw [show off + j = off + j / 5 * 5 + 1 by omega, c1]; exact hg.symm
      · rw [show off + j = off + j / 5 * 5 + 1 + 1 by omega, c2]; exact hg.symm
      · rw [show off + j = off + j / 5 * 5 + 1 + 1 + 1 by omega, c3]; exact hg.symm
      · rw [show off + j = off + j / 5 * 5 + 1 + 1 + 1 + 1 by omega, c4]; exact hg.symm
    · rw [flat_length] at hj
      rw [Nat.zero_add, h.2.1, Array.getElem?_eq_getElem (by omega)]
      rfl
    · obtain ⟨y, _, hy⟩ := List.mem_flatMap.1 hv
      simp only [Ins.vals, List.mem_cons, List.not_mem_nil, or_false] at hy
      rcases hy with rfl | rfl | rfl | rfl | rfl <;> rfl
def LtC (w : World) (n j : Nat) (wr : World) : Prop := Hid (Below w.heap.size w wr ∧ ∃ l : List Ins, l.length = n + 8 ∧ At wr w.heap.size (insA l) ∧ ∀ k, k < j → l[k]? = some mark)
def mkI8 : List Ins := List.replicate 8 mark
set_option maxRecDepth 100000 in
set_option maxHeartbeats 2000000 in
theorem lent_any (L : List Ins) (ca : Option Addr) (cc : Nat) (w : World) (hL : LIn w.heap.size w ca L) (hnil : NilOk ca L.length cc) (hn : L.length ≤ 1900000) :
    Calls Try.prog 5 #[.slice ca L.length cc] w fun e w' => e = .returned (.slice (some ⟨w.heap.size, 0, none⟩) L.length (L.length + 8)) ∧ At w' w.heap.size (insA (L ++ mkI8)) ∧ Below w.heap.size w w' := by
  have hm := make_insts (L.length + 8) (by omega)
  rw [show ((L.length + 8 : Nat) : Int) = (L.length : Int) + 8 by omega] at hm
  have h0 : LtC w L.length 0 (w.alloc (.cells (insA (List.replicate (L.length + 8) zeI)) 49)) := Hid.mk ⟨by (repeat (first | assumption | with_reducible exact Below.refl _ _ | with_reducible refine Below.alloc ?_ (by simp <;> omega) _ | with_reducible refine Below.setCell ?_ (by simp <;> omega) _ | with_reducible refine Below.drew ?_)), List.replicate (L.length + 8) zeI, by simp, At.new w _ _, fun k hk => by omega⟩
  generalize insA (List.replicate (L.length + 8) zeI) = Z at *
  have hS : ∀ j wr, LtC w L.length j wr → j < L.length + 8 → (∃ y, Five wr w.heap.size (j * 5) y) ∧ (∀ o, wr.frozen? ⟨w.heap.size, o, none⟩ = false) ∧ LtC w L.length (j + 1) (((((wr.setCell ⟨w.heap.size, j * 5, none⟩ (.int .u8 99)).setCell ⟨w.heap.size, j * 5 + 1, none⟩ (.int .i64 7)).setCell ⟨w.heap.size, j * 5 + 1 + 1, none⟩ (.int .i64 0)).setCell ⟨w.heap.size, j * 5 + 1 + 1 + 1, none⟩ (.int .i64 0)).setCell ⟨w.heap.size, j * 5 + 1 + 1 + 1 + 1, none⟩ (.int .i64 0)) := fun j wr q hj => by
    obtain ⟨q1, l, q2, q3, q4⟩ := q.out
    refine ⟨⟨_, insA_at q3 j (by omega)⟩, q3.2.2, Hid.mk ⟨((((q1.setCell (Nat.le_refl _) _).setCell (Nat.le_refl _) _).setCell (Nat.le_refl _) _).setCell (Nat.le_refl _) _).setCell (Nat.le_refl _) _, l.set j mark, by simp [q2], insA_put q3 j mark (by omega), fun k hk => ?_⟩⟩
    by_cases e : k = j
    · subst e; simp [q2, hj]
    · rw [List.getElem?_set_ne (fun r => e r.symm)]
      exact q4 k (by omega)
  have hC : ∀ wr, LtC w L.length (L.length + 8) wr → ((Builtin.copy_ #[22, 22] 3 #[.slice (some ⟨w.heap.size, 0, none⟩) (L.length + 8) (L.length + 8), .slice ca L.length cc]).run Try.prog wr = .ok (goInt L.length) (wr.setCells w.heap.size 0 (flat L))) ∧ At (wr.setCells w.heap.size 0 (flat L)) w.heap.size (insA (L ++ mkI8)) ∧ Below w.heap.size w (wr.setCells w.heap.size 0 (flat L)) := fun wr q => by
    obtain ⟨q1, l, q2, q3, q4⟩ := q.out
    have hsz := insA_size l
    refine ⟨copy_insts _ q3 ((hL.below q1).mono q1.size) hnil q2, ?_, q1.trans ((kp_setCells (fun k => k = w.heap.size) w.heap.size rfl _ 0 wr).below q1.size (fun k r => by omega))⟩
    have := at_cells q3 (flat L) (by rw [flat_length, hsz, q2]; omega)
    have el : l = List.replicate (L.length + 8) mark := by
      apply List.ext_getElem?
      intro k
      by_cases hk : k < L.length + 8
      · rw [q4 k hk]; simp [hk]
      · rw [List.getElem?_eq_none (by omega), List.getElem?_eq_none (by simp; omega)]
    have e2 : (flat L ++ (insA l).toList.drop (flat L).length).toArray = insA (L ++ mkI8) := by
      unfold insA
      rw [el, flat_app, List.toList_toArray, show List.replicate (L.length + 8) mark = List.replicate L.length mark ++ List.replicate 8 mark from List.replicate_append_replicate.symm, flat_app]
      have e3 : (flat (List.replicate L.length mark)).length = (flat L).length := by rw [flat_length, flat_length]; simp
      rw [← e3, List.drop_left]
      rfl
    rw [e2] at this
    exact this
  replace hL := Hid.mk hL
  replace hnil := Hid.mk hnil
  replace hS := Hid.mk hS
  replace hC := Hid.mk hC
  go_enter Try.func5, Try.ntmps5
  go_wp2_with fail
  go_loopw [4] (fun x wr => ∃ j : Nat, x = .int .i64 j ∧ j ≤ L.length + 8 ∧ LtC w L.length j wr) (fun x _ => L.length + 8 - (intOf x).toNat)
  case atStart => exact ⟨0, rfl, by omega, h0⟩
  case round =>
    clear h0
    obtain ⟨j, rfl, hj, hI⟩ := hrel
    by_cases hlt : j < L.length + 8
    · obtain ⟨⟨y, s0, s1, s2, s3, s4⟩, s5, s6⟩ := hS.out j wr hI hlt
      have hi1 : (j : Int) < (L.length : Int) + 8 := by omega
      replace s6 := Hid.mk s6
      go_wp2_with fail
      go_roundw
      all_goals first | exact ⟨j + 1, by simp, by omega, s6.out⟩ | (simp only [intOf]; omega)
    · have hi1 : ¬ (j : Int) < (L.length : Int) + 8 := by omega
      have ej : j = L.length + 8 := by omega
      subst ej
      obtain ⟨d1, d2, d3⟩ := hC.out wr hI
      have hi2 : (L.length : Int) ≤ (L.length : Int) + 8 := by omega
      replace d2 := Hid.mk d2
      replace d3 := Hid.mk d3
      go_wp2_with fail
      go_ret
      exact ⟨rfl, d2.out, d3.out⟩
end F
end Go.Proofs.Ytoppcikacakjcaa
