import Derived.Test.YtimiofkiadlnbaaP45
/-
  Stage 13, fastvm: the sort program reads. No Go in sight.
-/
namespace Go.Proofs.Ytimiofkiadlnbaa
namespace Z
open Go.RowKit
open T (Sep Ob Kp Mf FlIn boxOb)

/-- Behind so many numbers that were read. -/
def Rd8 (L : List Int) (j : Nat) (s : Fm) : Prop := ∃ r m, Hld 2 r (L.drop j) [] m s ∧ r 1 = (j : Int) ∧ r 9 = (L.length : Int) ∧ (0 < j → r 3 = 3) ∧ ∀ k (h : k < L.length), k < j → ((wd8 m k : Nat) : Int) = L[k]
theorem shl3 (j : Nat) (h : j ≤ 10) : IntKind.u64.wrap ((j : Int) * 2 ^ min ((3 : Int).tmod 64).toNat 64) = 8 * (j : Int) := by
  rw [show min ((3 : Int).tmod 64).toNat 64 = 3 by decide, IntKind.wrap_u64]
  omega
theorem at256 (j c : Nat) (h : j ≤ 10) (hc : c ≤ 300) : IntKind.u64.wrap (8 * (j : Int) + (c : Int)) = ((8 * j + c : Nat) : Int) := by
  rw [IntKind.wrap_u64]
  omega
theorem rd_step (L : List Int) (hl : L.length ≤ 10) (hw : ∀ x ∈ L, Wd x) (j : Nat) (hj : j < L.length) : Gts L.length 8 (Rd8 L j) (Rd8 L (j + 1)) := by
  rintro s ⟨r, m, h, h1, h9, _, hm⟩
  have hx := hw _ (List.getElem_mem hj)
  have hd : L.drop j = L[j] :: L.drop (j + 1) := List.drop_eq_getElem_cons hj
  rw [hd] at h
  have q1 := srt_bge_no (n := L.length) (p := 2) (a := 1) (b := 9) (c := 0) (v := 8) (r := r) (inp := L[j] :: L.drop (j + 1)) (out := []) (m := m) rfl (by rw [h1, h9]; omega)
  have q2 := srt_in (n := L.length) (p := 3) (a := 2) (b := 0) (c := 0) (v := 0) (r := r) (inp := L.drop (j + 1)) (out := []) (m := m) L[j] rfl
  have q3 := srt_li (n := L.length) (p := 4) (a := 3) (b := 0) (c := 0) (v := 3) (r := updR r 2 L[j]) (inp := L.drop (j + 1)) (out := []) (m := m) rfl
  have q4 := srt_shl (n := L.length) (p := 5) (a := 4) (b := 1) (c := 3) (v := 0) (r := updR (updR r 2 L[j]) 3 3) (inp := L.drop (j + 1)) (out := []) (m := m) rfl
  have e1 : updR (updR r 2 L[j]) 3 3 1 = (j : Int) := by rw [← h1]; rfl
  have e3 : updR (updR r 2 L[j]) 3 3 3 = 3 := rfl
  rw [e1, e3, shl3 j (by omega)] at q4
  have q5 := srt_sw (n := L.length) (p := 6) (a := 2) (b := 4) (c := 0) (v := 256) (r := updR (updR (updR r 2 L[j]) 3 3) 4 (8 * (j : Int))) (inp := L.drop (j + 1)) (out := []) (m := m) (256 + 8 * j) rfl (by
    show IntKind.u64.wrap (8 * (j : Int) + 256) = _
    have := at256 j 256 (by omega) (by omega)
    rw [show ((8 * j + 256 : Nat) : Int) = ((256 + 8 * j : Nat) : Int) by omega] at this
    exact this) (by omega)
  have e2 : updR (updR (updR r 2 L[j]) 3 3) 4 (8 * (j : Int)) 2 = L[j] := rfl
  rw [e2] at q5
  have q6 := srt_jmp (n := L.length) (p := 7) (a := 0) (b := 0) (c := 0) (v := 25) (r := updR (updR (updR r 2 L[j]) 3 3) 4 (8 * (j : Int))) (inp := L.drop (j + 1)) (out := []) (m := T.putB m (256 + 8 * j) L[j].toNat 8) rfl
  have q7 := srt_addi (n := L.length) (p := 25) (a := 1) (b := 1) (c := 0) (v := 1) (r := updR (updR (updR r 2 L[j]) 3 3) 4 (8 * (j : Int))) (inp := L.drop (j + 1)) (out := []) (m := T.putB m (256 + 8 * j) L[j].toNat 8) rfl
  have e4 : updR (updR (updR r 2 L[j]) 3 3) 4 (8 * (j : Int)) 1 = (j : Int) := by rw [← h1]; rfl
  rw [e4, show IntKind.u64.wrap ((j : Int) + 1) = ((j + 1 : Nat) : Int) by rw [IntKind.wrap_u64]; omega] at q7
  have q8 := srt_jmp (n := L.length) (p := 26) (a := 0) (b := 0) (c := 0) (v := 2) (r := updR (updR (updR (updR r 2 L[j]) 3 3) 4 (8 * (j : Int))) 1 ((j + 1 : Nat) : Int)) (inp := L.drop (j + 1)) (out := []) (m := T.putB m (256 + 8 * j) L[j].toNat 8) rfl
  have q := ((((((q1.trans q2).trans q3).trans q4).trans q5).trans q6).trans q7).trans q8
  refine ⟨_, _, q s h, rfl, ?_, fun _ => rfl, fun k hk hkj => ?_⟩
  · rw [← h9]; rfl
  · rw [wd8_put m j k L[j].toNat (by have := hx.1; have := hx.2; omega)]
    by_cases e : k = j
    · subst e
      rw [if_pos rfl]
      have := hx.1
      omega
    · rw [if_neg e]
      exact hm k hk (by omega)
/-- All is read. -/
theorem rd_all (L : List Int) (hl : L.length ≤ 10) (hw : ∀ x ∈ L, Wd x) : ∀ j, j ≤ L.length → Gts L.length (8 * j) (Rd8 L 0) (Rd8 L j)
  | 0, _ => Gts.refl _ _
  | j + 1, h => by
    have := (rd_all L hl hw j (by omega)).trans (rd_step L hl hw j (by omega))
    rwa [show 8 * j + 8 = 8 * (j + 1) by omega] at this
end Z
end Go.Proofs.Ytimiofkiadlnbaa


/-
  Stage 13, fastvm: the sort program puts out. No Go in sight.
-/
namespace Go.Proofs.Ytimiofkiadlnbaa
namespace Z
open Go.RowKit
open T (Sep Ob Kp Mf FlIn boxOb)

/-- A list in memory. -/
def Lst8 (m : Nat → UInt8) (V : List Int) : Prop := ∀ k (h : k < V.length), ((wd8 m k : Nat) : Int) = V[k]
/-- Behind so many numbers that were put out. -/
def Wr8 (V : List Int) (j : Nat) (s : Fm) : Prop := ∃ r m inp, Hld 20 r inp (V.take j) m s ∧ r 5 = (j : Int) ∧ r 9 = (V.length : Int) ∧ (0 < V.length → r 3 = 3) ∧ Lst8 m V
theorem wr_step (V : List Int) (hl : V.length ≤ 10) (j : Nat) (hj : j < V.length) : Gts V.length 7 (Wr8 V j) (Wr8 V (j + 1)) := by
  rintro s ⟨r, m, inp, h, h5, h9, h30, hm⟩
  have h3 := h30 (by omega)
  have q1 := srt_bge_no (n := V.length) (p := 20) (a := 5) (b := 9) (c := 0) (v := 27) (r := r) (inp := inp) (out := V.take j) (m := m) rfl (by rw [h5, h9]; omega)
  have q2 := srt_shl (n := V.length) (p := 21) (a := 4) (b := 5) (c := 3) (v := 0) (r := r) (inp := inp) (out := V.take j) (m := m) rfl
  rw [h5, h3, shl3 j (by omega)] at q2
  have q3 := srt_lw (n := V.length) (p := 22) (a := 7) (b := 4) (c := 0) (v := 256) (r := updR r 4 (8 * (j : Int))) (inp := inp) (out := V.take j) (m := m) (256 + 8 * j) rfl (by
    show IntKind.u64.wrap (8 * (j : Int) + 256) = _
    have := at256 j 256 (by omega) (by omega)
    rw [show ((8 * j + 256 : Nat) : Int) = ((256 + 8 * j : Nat) : Int) by omega] at this
    exact this) (by omega)
  have e0 : ((T.leB m (256 + 8 * j) 8 : Nat) : Int) = V[j] := hm j hj
  rw [e0] at q3
  have q4 := srt_out (n := V.length) (p := 23) (a := 7) (b := 0) (c := 0) (v := 0) (r := updR (updR r 4 (8 * (j : Int))) 7 V[j]) (inp := inp) (out := V.take j) (m := m) rfl
  have e1 : updR (updR r 4 (8 * (j : Int))) 7 V[j] 7 = V[j] := rfl
  rw [e1, show V.take j ++ [V[j]] = V.take (j + 1) from (List.take_succ_eq_append_getElem hj).symm] at q4
  have q5 := srt_jmp (n := V.length) (p := 24) (a := 0) (b := 0) (c := 0) (v := 28) (r := updR (updR r 4 (8 * (j : Int))) 7 V[j]) (inp := inp) (out := V.take (j + 1)) (m := m) rfl
  have q6 := srt_addi (n := V.length) (p := 28) (a := 5) (b := 5) (c := 0) (v := 1) (r := updR (updR r 4 (8 * (j : Int))) 7 V[j]) (inp := inp) (out := V.take (j + 1)) (m := m) rfl
  have e2 : updR (updR r 4 (8 * (j : Int))) 7 V[j] 5 = (j : Int) := by rw [← h5]; rfl
  rw [e2, show IntKind.u64.wrap ((j : Int) + 1) = ((j + 1 : Nat) : Int) by rw [IntKind.wrap_u64]; omega] at q6
  have q7 := srt_jmp (n := V.length) (p := 29) (a := 0) (b := 0) (c := 0) (v := 20) (r := updR (updR (updR r 4 (8 * (j : Int))) 7 V[j]) 5 ((j + 1 : Nat) : Int)) (inp := inp) (out := V.take (j + 1)) (m := m) rfl
  have q := (((((q1.trans q2).trans q3).trans q4).trans q5).trans q6).trans q7
  refine ⟨_, _, _, q s h, rfl, ?_, ?_, hm⟩
  · rw [← h9]; rfl
  · intro _; rw [← h3]; rfl
theorem wr_all (V : List Int) (hl : V.length ≤ 10) : ∀ j, j ≤ V.length → Gts V.length (7 * j) (Wr8 V 0) (Wr8 V j)
  | 0, _ => Gts.refl _ _
  | j + 1, h => by
    have := (wr_all V hl j (by omega)).trans (wr_step V hl j (by omega))
    rwa [show 7 * j + 7 = 7 * (j + 1) by omega] at this
/-- How it is over. -/
structure Ovr8 (V : List Int) (s : Fm) : Prop where
  e : s.e = 1
  v : s.v = (V.length : Int)
  f : s.f = 0
  g : s.g = 0
  p : s.p = 27
  out : s.out = V
theorem wr_end (V : List Int) : Gts V.length 2 (Wr8 V V.length) (Ovr8 V) := by
  rintro s ⟨r, m, inp, h, h5, h9, _, _⟩
  have q1 := srt_bge_yes (n := V.length) (p := 20) (a := 5) (b := 9) (c := 0) (v := 27) (r := r) (inp := inp) (out := V.take V.length) (m := m) rfl (by rw [h5, h9]; omega)
  have q2 := step_srt (n := V.length) (p := 27) (r := r) (inp := inp) (out := V.take V.length) (m := m) (i := ⟨27, 9, 0, 0, 0⟩) (B := Ovr8 V) rfl (fun s h => ⟨rfl, by show s.r 9 = _; rw [h.r, h9], rfl, h.g, h.p, by show s.out = _; rw [h.out, List.take_length]⟩)
  exact (q1.trans q2) s h
end Z
end Go.Proofs.Ytimiofkiadlnbaa


/-
  Stage 13, fastvm: the sort program sorts. No Go in sight.
-/
namespace Go.Proofs.Ytimiofkiadlnbaa
namespace Z
open Go.RowKit
open T (Sep Ob Kp Mf FlIn boxOb)

/-- At a place of the list. -/
def Sc8 (V : List Int) (i : Nat) (s : Fm) : Prop := ∃ r m, Hld 9 r [] [] m s ∧ r 5 = (i : Int) ∧ r 9 = (V.length : Int) ∧ (0 < V.length → r 3 = 3) ∧ Lst8 m V
theorem inc_w (j : Nat) (h : j ≤ 100) : IntKind.u64.wrap ((j : Int) + 1) = ((j + 1 : Nat) : Int) := by rw [IntKind.wrap_u64]; omega
theorem sc_begin (L : List Int) : Gts L.length 2 (Rd8 L L.length) (Sc8 L 0) := by
  rintro s ⟨r, m, h, h1, h9, h3, hm⟩
  rw [List.drop_length] at h
  have q1 := srt_bge_yes (n := L.length) (p := 2) (a := 1) (b := 9) (c := 0) (v := 8) (r := r) (inp := []) (out := []) (m := m) rfl (by rw [h1, h9]; omega)
  have q2 := srt_li (n := L.length) (p := 8) (a := 5) (b := 0) (c := 0) (v := 0) (r := r) (inp := []) (out := []) (m := m) rfl
  refine ⟨_, _, (q1.trans q2) s h, rfl, ?_, fun q => ?_, fun k hk => hm k hk hk⟩
  · rw [← h9]; rfl
  · rw [← h3 q]; rfl
theorem sc_done (V : List Int) (i : Nat) (hi : V.length ≤ i + 1) (hi2 : i ≤ 100) : Gts V.length 3 (Sc8 V i) (Wr8 V 0) := by
  rintro s ⟨r, m, h, h5, h9, h3, hm⟩
  have q1 := srt_addi (n := V.length) (p := 9) (a := 6) (b := 5) (c := 0) (v := 1) (r := r) (inp := []) (out := []) (m := m) rfl
  rw [h5, inc_w i hi2] at q1
  have q2 := srt_bge_yes (n := V.length) (p := 10) (a := 6) (b := 9) (c := 0) (v := 19) (r := updR r 6 ((i + 1 : Nat) : Int)) (inp := []) (out := []) (m := m) rfl (by
    show r 9 ≤ ((i + 1 : Nat) : Int)
    rw [h9]; omega)
  have q3 := srt_li (n := V.length) (p := 19) (a := 5) (b := 0) (c := 0) (v := 0) (r := updR r 6 ((i + 1 : Nat) : Int)) (inp := []) (out := []) (m := m) rfl
  refine ⟨_, _, _, ((q1.trans q2).trans q3) s h, rfl, ?_, fun q => ?_, hm⟩
  · rw [← h9]; rfl
  · rw [← h3 q]; rfl
/-- Up to where both are at hand. -/
theorem sc_look (V : List Int) (hl : V.length ≤ 10) (i : Nat) (hi : i + 1 < V.length) : Gts V.length 6 (Sc8 V i) (fun s => ∃ r m, Hld 15 r [] [] m s ∧ r 5 = ((i + 1 : Nat) : Int) ∧ r 9 = (V.length : Int) ∧ r 3 = 3 ∧ r 4 = 8 * (i : Int) ∧ r 7 = V[i] ∧ r 8 = V[i + 1] ∧ Lst8 m V) := by
  rintro s ⟨r, m, h, h5, h9, h30, hm⟩
  have h3 := h30 (by omega)
  have q1 := srt_addi (n := V.length) (p := 9) (a := 6) (b := 5) (c := 0) (v := 1) (r := r) (inp := []) (out := []) (m := m) rfl
  rw [h5, inc_w i (by omega)] at q1
  have q2 := srt_bge_no (n := V.length) (p := 10) (a := 6) (b := 9) (c := 0) (v := 19) (r := updR r 6 ((i + 1 : Nat) : Int)) (inp := []) (out := []) (m := m) rfl (by
    show ¬ r 9 ≤ ((i + 1 : Nat) : Int)
    rw [h9]; omega)
  have q3 := srt_shl (n := V.length) (p := 11) (a := 4) (b := 5) (c := 3) (v := 0) (r := updR r 6 ((i + 1 : Nat) : Int)) (inp := []) (out := []) (m := m) rfl
  have e1 : updR r 6 ((i + 1 : Nat) : Int) 5 = (i : Int) := by rw [← h5]; rfl
  have e2 : updR r 6 ((i + 1 : Nat) : Int) 3 = 3 := by rw [← h3]; rfl
  rw [e1, e2, shl3 i (by omega)] at q3
  have q4 := srt_lw (n := V.length) (p := 12) (a := 7) (b := 4) (c := 0) (v := 256) (r := updR (updR r 6 ((i + 1 : Nat) : Int)) 4 (8 * (i : Int))) (inp := []) (out := []) (m := m) (256 + 8 * i) rfl (by
    show IntKind.u64.wrap (8 * (i : Int) + 256) = _
    have := at256 i 256 (by omega) (by omega)
    rw [show ((8 * i + 256 : Nat) : Int) = ((256 + 8 * i : Nat) : Int) by omega] at this
    exact this) (by omega)
  have e3 : ((T.leB m (256 + 8 * i) 8 : Nat) : Int) = V[i] := hm i (by omega)
  rw [e3] at q4
  have q5 := srt_lw (n := V.length) (p := 13) (a := 8) (b := 4) (c := 0) (v := 264) (r := updR (updR (updR r 6 ((i + 1 : Nat) : Int)) 4 (8 * (i : Int))) 7 V[i]) (inp := []) (out := []) (m := m) (256 + 8 * (i + 1)) rfl (by
    show IntKind.u64.wrap (8 * (i : Int) + 264) = _
    have := at256 i 264 (by omega) (by omega)
    rw [show ((8 * i + 264 : Nat) : Int) = ((256 + 8 * (i + 1) : Nat) : Int) by omega] at this
    exact this) (by omega)
  have e4 : ((T.leB m (256 + 8 * (i + 1)) 8 : Nat) : Int) = V[i + 1] := hm (i + 1) (by omega)
  rw [e4] at q5
  have q6 := srt_addi (n := V.length) (p := 14) (a := 5) (b := 5) (c := 0) (v := 1) (r := updR (updR (updR (updR r 6 ((i + 1 : Nat) : Int)) 4 (8 * (i : Int))) 7 V[i]) 8 V[i + 1]) (inp := []) (out := []) (m := m) rfl
  have e5 : updR (updR (updR (updR r 6 ((i + 1 : Nat) : Int)) 4 (8 * (i : Int))) 7 V[i]) 8 V[i + 1] 5 = (i : Int) := by rw [← h5]; rfl
  rw [e5, inc_w i (by omega)] at q6
  refine ⟨_, _, (((((q1.trans q2).trans q3).trans q4).trans q5).trans q6) s h, rfl, ?_, ?_, rfl, rfl, rfl, hm⟩
  · rw [← h9]; rfl
  · rw [← h3]; rfl
/-- Both are in order: one further on. -/
theorem sc_next (V : List Int) (hl : V.length ≤ 10) (i : Nat) (hi : i + 1 < V.length) (ho : V[i] ≤ V[i + 1]) : Gts V.length 7 (Sc8 V i) (Sc8 V (i + 1)) := by
  refine Gts.trans (k := 6) (j := 1) (sc_look V hl i hi) ?_
  rintro s ⟨r, m, h, h5, h9, h3, _, h7, h8, hm⟩
  have q1 := srt_bge_yes (n := V.length) (p := 15) (a := 8) (b := 7) (c := 0) (v := 9) (r := r) (inp := []) (out := []) (m := m) rfl (by rw [h7, h8]; exact ho)
  exact ⟨_, _, q1 s h, h5, h9, fun _ => h3, hm⟩
/-- They are not: they change their places, and all begins anew. -/
def swp (V : List Int) (i : Nat) : List Int := (V.set i (V.getD (i + 1) 0)).set (i + 1) (V.getD i 0)
theorem sc_swap (V : List Int) (hl : V.length ≤ 10) (hw : ∀ x ∈ V, Wd x) (i : Nat) (hi : i + 1 < V.length) (ho : ¬ V[i] ≤ V[i + 1]) : Gts V.length 11 (Sc8 V i) (Sc8 (swp V i) 0) := by
  refine Gts.trans (k := 6) (j := 5) (sc_look V hl i hi) ?_
  rintro s ⟨r, m, h, h5, h9, h3, h4, h7, h8, hm⟩
  have w1 := hw _ (List.getElem_mem (show i < V.length by omega))
  have w2 := hw _ (List.getElem_mem hi)
  have q1 := srt_bge_no (n := V.length) (p := 15) (a := 8) (b := 7) (c := 0) (v := 9) (r := r) (inp := []) (out := []) (m := m) rfl (by rw [h7, h8]; exact ho)
  have q2 := srt_sw (n := V.length) (p := 16) (a := 8) (b := 4) (c := 0) (v := 256) (r := r) (inp := []) (out := []) (m := m) (256 + 8 * i) rfl (by
    rw [h4]
    have := at256 i 256 (by omega) (by omega)
    rw [show ((8 * i + 256 : Nat) : Int) = ((256 + 8 * i : Nat) : Int) by omega] at this
    exact this) (by omega)
  have q3 := srt_sw (n := V.length) (p := 17) (a := 7) (b := 4) (c := 0) (v := 264) (r := r) (inp := []) (out := []) (m := T.putB m (256 + 8 * i) (r 8).toNat 8) (256 + 8 * (i + 1)) rfl (by
    rw [h4]
    have := at256 i 264 (by omega) (by omega)
    rw [show ((8 * i + 264 : Nat) : Int) = ((256 + 8 * (i + 1) : Nat) : Int) by omega] at this
    exact this) (by omega)
  have q4 := srt_jmp (n := V.length) (p := 18) (a := 0) (b := 0) (c := 0) (v := 8) (r := r) (inp := []) (out := []) (m := T.putB (T.putB m (256 + 8 * i) (r 8).toNat 8) (256 + 8 * (i + 1)) (r 7).toNat 8) rfl
  have q5 := srt_li (n := V.length) (p := 8) (a := 5) (b := 0) (c := 0) (v := 0) (r := r) (inp := []) (out := []) (m := T.putB (T.putB m (256 + 8 * i) (r 8).toNat 8) (256 + 8 * (i + 1)) (r 7).toNat 8) rfl
  have hsl : (swp V i).length = V.length := by simp [swp]
  refine ⟨_, _, ((((q1.trans q2).trans q3).trans q4).trans q5) s h, rfl, ?_, fun _ => ?_, fun k hk => ?_⟩
  · rw [hsl, ← h9]; rfl
  · rw [← h3]; rfl
  · rw [hsl] at hk
    rw [wd8_put _ _ _ _ (by rw [h7]; have := w1.1; have := w1.2; omega)]
    by_cases e1 : k = i + 1
    · subst e1
      rw [if_pos rfl, h7]
      have : (swp V i)[i + 1] = V[i] := by simp [swp, show i < V.length by omega]
      rw [this]
      have := w1.1
      omega
    · rw [if_neg e1, wd8_put _ _ _ _ (by rw [h8]; have := w2.1; have := w2.2; omega)]
      by_cases e2 : k = i
      · subst e2
        rw [if_pos rfl, h8]
        have : (swp V k)[k] = V[k + 1] := by simp [swp, hi]
        rw [this]
        have := w2.1
        omega
      · rw [if_neg e2, hm k hk]
        have : (swp V i)[k] = V[k] := by simp [swp, show ¬ i + 1 = k from fun q => e1 q.symm, show ¬ i = k from fun q => e2 q.symm]
        rw [this]
end Z
end Go.Proofs.Ytimiofkiadlnbaa
