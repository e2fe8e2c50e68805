import Derived.Test.YtdmkedpnkejpbaaDoorP13
import Derived.Test.YtdmkedpnkejpbaaDoorP14
import Derived.Test.YtdmkedpnkejpbaaDoorP09
/-
  Stage 4, image: how many bytes a right program has, at most. No Go in sight.
-/
namespace Go.Proofs.YtdmkedpnkejpbaaDoor
open Go.RowKit

theorem typB_le (t : PTyp) : (typB t).length ≤ 35 := by
  unfold typB
  split <;> simp [putB_length]
theorem typsB_le (L : List PTyp) : (typsB L).length ≤ 35 * L.length := by
  induction L with
  | nil => simp [typsB]
  | cons t l ih => have := typB_le t; simp only [typsB, List.length_append, List.length_cons]; omega
theorem slotsB_le (L : List PSlot) : (slotsB L).length ≤ 43 * L.length := by
  induction L with
  | nil => simp [slotsB]
  | cons t l ih => have := typB_le t.t; simp only [slotsB, slotB, List.length_append, List.length_cons, putB_length, List.length_nil]; omega
theorem rootsB_le (L : List PRoot) : (rootsB L).length ≤ 27 * L.length := by
  induction L with
  | nil => simp [rootsB]
  | cons t l ih => simp only [rootsB, rootB, List.length_append, List.length_cons, putB_length, List.length_nil]; omega
theorem rootsR_len (L : List PRoot) (f : Int) (h : rootsR L f = true) (hf : f ≤ 15) : (L.length : Int) ≤ 15 - f := by
  induction L generalizing f with
  | nil => simp; omega
  | cons k l ih =>
    rw [rootsR] at h
    by_cases hk : f < k.r ∧ k.r < 16 ∧ dataB k.b k.e k.p k.s = true
    · rw [if_pos hk] at h
      have := ih k.r h (by omega)
      simp only [List.length_cons]
      omega
    · rw [if_neg hk] at h; cases h
theorem encF_le (L : List Ins) (j : Nat) (B : List UInt8) : (encF L j B).1.length ≤ B.length + 8 * L.length := by
  induction L generalizing j B with
  | nil => simp [encF]
  | cons k l ih =>
    rw [encF]
    split
    · have := ih (j + 1) (B ++ bytesOf k)
      rw [List.length_append, bytesOf_length] at this
      simp only [List.length_cons]; omega
    · simp
theorem regB_le {r : PReg} {f : Int} (hb : 0 ≤ r.b) (h : (placeB r.b r.n f && contentB r.n r.data r.slots.length) = true) : (regB r).length ≤ 400000 := by
  rw [Bool.and_eq_true] at h
  have h1 := placeB_in h.1
  have h2 := h.2
  have h3 := slotsB_le r.slots
  unfold regB dataBy
  simp only [List.length_append, putB_length, List.length_cons, List.length_nil]
  unfold contentB at h2
  by_cases hs : 0 < r.slots.length
  · rw [if_pos hs, Bool.and_eq_true, beq_iff_eq] at h2
    rw [if_neg (by omega)]
    simp only [List.length_nil]
    omega
  · rw [if_neg hs, Bool.and_eq_true, decide_eq_true_eq] at h2
    rw [if_pos (by omega)]
    simp only [List.length_append, putB_length, List.length_cons, List.length_nil]
    omega
theorem regsB_le (L : List PReg) (f : Int) (hr : ∀ r ∈ L, r.Rng) (h : regsR L f = 0) : (regsB L).length ≤ 400000 * L.length := by
  induction L generalizing f with
  | nil => simp [regsB]
  | cons r l ih =>
    rw [regsR] at h
    by_cases h1 : (placeB r.b r.n f && contentB r.n r.data r.slots.length) = true
    · rw [if_pos h1] at h
      by_cases h2 : slotsR r.slots = true
      · rw [if_pos h2] at h
        have i1 := ih _ (fun x hx => hr x (by simp [hx])) h
        have i2 := regB_le (hr r (by simp)).1.1 h1
        simp only [regsB, List.length_append, List.length_cons]; omega
      · rw [if_neg h2] at h; omega
    · rw [if_neg h1] at h; omega
theorem compB_le {c : PComp} {g : Int} (h1 : rootsR c.roots 7 = true) (h2 : codeR c.code g = 0) : (compB c).length ≤ 4000 := by
  have i1 := rootsR_len _ _ h1 (by omega)
  have i2 := rootsB_le c.roots
  have i3 := encF_le c.code 0 []
  unfold codeR at h2
  by_cases hl : c.code.length < 1 ∨ 400 < c.code.length
  · rw [if_pos hl] at h2; omega
  · unfold compB codeBy
    simp only [List.length_append, putB_length, List.length_cons, List.length_nil] at *
    omega
theorem compsB_le (g : Int) (L : List PComp) (h : compsR g L = 0) : (compsB L).length ≤ 4000 * L.length := by
  induction L with
  | nil => simp [compsB]
  | cons c l ih =>
    rw [compsR] at h
    by_cases h1 : rootsR c.roots 7 = true
    · rw [if_pos h1] at h
      by_cases h2 : codeR c.code g = 0
      · rw [if_pos h2] at h
        have i1 := ih h
        have i2 := compB_le h1 h2
        simp only [compsB, List.length_append, List.length_cons]; omega
      · rw [if_neg h2] at h; exact absurd h h2
    · rw [if_neg h1] at h; omega
theorem gatesB_le (M : List PComp) (L : List PGate) (h : gatesR M L = 0) : (gatesB L).length ≤ 1000 * L.length := by
  induction L with
  | nil => simp [gatesB]
  | cons c l ih =>
    rw [gatesR] at h
    by_cases h1 : (hasI M c.c c.e && decide (c.args.length ≤ 7) && decide (c.res.length ≤ 7)) = true
    · rw [if_pos h1] at h
      by_cases h2 : (typesR c.args && typesR c.res) = true
      · rw [if_pos h2] at h
        have i1 := ih h
        have i2 := typsB_le c.args
        have i3 := typsB_le c.res
        simp only [Bool.and_eq_true, decide_eq_true_eq] at h1
        simp only [gatesB, gateB, kindsB, List.length_append, List.length_cons, putB_length, List.length_nil]; omega
      · rw [if_neg h2] at h; omega
    · rw [if_neg h1] at h; omega
theorem right_parts {m : PImg} (h : m.right = 0) : countsB m.regs.length m.comps.length m.gates.length m.depth = true ∧ regsR m.regs 0 = 0 ∧ compsR m.gates.length m.comps = 0 ∧ gatesR m.comps m.gates = 0 := by
  unfold PImg.right at h
  by_cases h1 : countsB m.regs.length m.comps.length m.gates.length m.depth = true
  · rw [if_pos h1] at h
    by_cases h2 : regsR m.regs 0 = 0
    · rw [if_pos h2] at h
      by_cases h3 : compsR m.gates.length m.comps = 0
      · rw [if_pos h3] at h
        exact ⟨h1, h2, h3, h⟩
      · rw [if_neg h3] at h; exact absurd h h3
    · rw [if_neg h2] at h; exact absurd h h2
  · rw [if_neg h1] at h; omega
theorem imgB_le {m : PImg} (hr : m.Rng) (h : m.right = 0) : (imgB m).length ≤ 10000000 := by
  obtain ⟨h1, h2, h3, h4⟩ := right_parts h
  have i1 := regsB_le _ _ hr.regs.2 h2
  have i2 := compsB_le _ _ h3
  have i3 := gatesB_le _ _ h4
  unfold countsB at h1
  simp only [Bool.and_eq_true, decide_eq_true_eq] at h1
  unfold imgB magicB
  simp only [List.length_append, putB_length, List.length_cons, List.length_nil]
  omega
/-- What Encode answers. -/
def encI (m : PImg) : List UInt8 × Int := if m.right = 0 then (if (imgB m).length ≤ 40000 then (imgB m, 0) else ([], 42)) else ([], m.right)
end Go.Proofs.YtdmkedpnkejpbaaDoor


/-
  Stage 4, image: codeRight.
-/
namespace Go.Proofs.YtdmkedpnkejpbaaDoor
open Go.RowKit

theorem codeF_at {L : List Ins} {j : Nat} {n g : Int} (h : j < L.length) : codeF n g (L.drop j) = if L[j].right = 0 then (if tgtB L[j].op L[j].m n g then codeF n g (L.drop (j + 1)) else 48) else L[j].right := by
  rw [List.drop_eq_getElem_cons h, codeF]
set_option maxHeartbeats 1000000 in
theorem codeRight_any (L : List Ins) (gates : Int) (c : Nat) (a : Option Addr) (w : World) (ht : TabIn w) (hL : LIn w.heap.size w a L) (ho : OpsIn L) (hl : L.length ≤ 140737488355328) :
    Calls Tryd.prog 65 #[.slice a L.length c, .int .i64 gates] w fun x w' => x = .returned (.int .i64 (codeR L gates)) ∧ Gr w w' := by
  replace hL := Hid.mk hL
  unfold codeR
  by_cases h1 : L.length < 1
  · rw [if_pos (.inl h1)]
    have h1' : (L.length : Int) < 1 := by omega
    go_enter Tryd.func65, Tryd.ntmps65
    go_wp2_with fail
    go_ret
    exact ⟨rfl, Gr.refl _⟩
  by_cases h2 : 400 < L.length
  · rw [if_pos (.inr h2)]
    have h1' : ¬ (L.length : Int) < 1 := by omega
    have h2' : (400 : Int) < L.length := by omega
    go_enter Tryd.func65, Tryd.ntmps65
    go_wp2_with fail
    go_ret
    exact ⟨rfl, Gr.refl _⟩
  rw [if_neg (by omega)]
  have h1' : ¬ (L.length : Int) < 1 := by omega
  have h2' : ¬ (400 : Int) < L.length := by omega
  generalize hR : codeF L.length gates L = R
  go_enter Tryd.func65, Tryd.ntmps65
  go_wp2_with fail
  go_loopw [18] (fun i wr => ∃ j : Nat, i = .int .i64 j ∧ j ≤ L.length ∧ Hid (codeF L.length gates (L.drop j) = R ∧ Gr w wr)) (fun i _ => L.length - (intOf i).toNat)
  case atStart => exact ⟨0, rfl, by omega, ⟨hR, Gr.refl w⟩⟩
  case round =>
    clear hR
    obtain ⟨j, rfl, hj, ⟨hf, hG⟩⟩ := hrel
    by_cases hlt : j < L.length
    · have jl : (j : Int) < L.length := by omega
      obtain ⟨b, off, rfl, hb, hb2, c0, c1, c2, c3, c4⟩ := hL.out.below hG.below j hlt
      rw [codeF_at hlt] at hf
      have hop := ho L[j] (List.getElem_mem hlt)
      generalize L[j] = k at *
      have hR := fun w ht => Right_any k.op k.a k.b k.c k.m w ht hop.1 hop.2
      have hT := fun w => targetThere_any k L.length gates w hop.1 hop.2
      have hR2 : k.right = rightF k.op k.a k.b k.c k.m := rfl
      rw [← hR2] at hR
      clear hR2
      generalize tgtB k.op k.m L.length gates = tb at hf hT
      generalize k.right = kr at hf hR
      replace hf := Hid.mk hf
      have htr : TabIn wr := ht.gr hG
      replace hG := Hid.mk hG
      go_wp2_with fail
      refine (hR _ (htr.gr ((Gr.refl wr).alloc _))).mono ?_
      rintro x w2 ⟨rfl, hG2⟩
      have A1 : At w2 wr.heap.size #[.int .u8 k.op, .int .i64 k.a, .int .i64 k.b, .int .i64 k.c, .int .i64 k.m] := (At.new wr _ _).gr hG2
      replace hG := hG.out.trans hG2.of_alloc
      clear hG2
      replace hG := Hid.mk hG
      have ⟨z1, q1, _⟩ := A1
      by_cases hk : kr = 0
      · have e0 : (kr != 0) = false := by simpa using hk
        replace hk := Hid.mk hk
        cases tb
        all_goals
          go_wp2_with fail
          refine (hT _).mono ?_
          rintro x w3 ⟨rfl, hG3⟩
          replace hG := hG.out.trans hG3
          clear hG3 z1 q1 A1
          replace hG := Hid.mk hG
          go_wp2_with fail
        · go_ret
          exact ⟨retI (by rw [← hf.out, if_pos hk.out]; simp), hG.out⟩
        · go_roundw
          case rel => exact ⟨j + 1, by simp, by omega, ⟨by rw [← hf.out, if_pos hk.out]; simp, hG.out⟩⟩
          case measure => simp [intOf]; omega
      · have e0 : (kr != 0) = true := by simpa using hk
        replace hk := Hid.mk hk
        go_wp2_with fail
        go_ret
        exact ⟨retI (by rw [← hf.out, if_neg hk.out]), hG.out⟩
    · have jl : ¬ (j : Int) < L.length := by omega
      rw [drop_end hlt, codeF] at hf
      replace hf := Hid.mk hf
      replace hG := Hid.mk hG
      go_wp2_with fail
      go_ret
      exact ⟨retI hf.out, hG.out⟩
end Go.Proofs.YtdmkedpnkejpbaaDoor
