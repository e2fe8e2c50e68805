import Derived.Test.YtdmkedpnkejpbaaDoorP38
import Derived.Test.YtdmkedpnkejpbaaDoorMRdE
import Derived.Test.YtdmkedpnkejpbaaDoorP16
import Derived.Laws.BitsAllLaws
/-
  Stage 4, image: the document's reader as a whole against the program's. No Go in sight.
-/
namespace Go.Proofs.YtdmkedpnkejpbaaDoor
open Go.RowKit

theorem listF_bad {α : Type} {f : RS → α × RS} (hf : ∀ τ : RS, τ.e ≠ 0 → (f τ).2 = τ) (n : Nat) (τ : RS) (L : List α) (h : τ.e ≠ 0) : (listF f n τ L).2 = τ := by
  cases n with
  | zero => rfl
  | succ n => rw [listF, hf τ h, if_neg h]
theorem kindP_bad (S : List UInt8) (τ : RS) (h : τ.e ≠ 0) : (kindP S τ).2 = τ := by
  have h1 := takeS_bad S 1 τ h
  have h2 : numV S 1 τ = 0 := num_bad S 1 τ (by rw [h1]; exact h)
  unfold kindP
  rw [if_pos h2]
  exact h1
theorem slotP_bad (S : List UInt8) (τ : RS) (h : τ.e ≠ 0) : (slotP S τ).2 = τ := by
  unfold slotP
  simp only
  rw [kindP_bad S τ h, takeS_bad S 8 τ h]
theorem rootP_bad (S : List UInt8) (τ : RS) (h : τ.e ≠ 0) : (rootP S τ).2 = τ := by
  have h1 := takeS_bad S 1 τ h
  have h8 := takeS_bad S 8 τ h
  unfold rootP capS
  simp only [h1, h8]
theorem kindsP_bad (S : List UInt8) (τ : RS) (h : τ.e ≠ 0) : (kindsP S τ).2 = τ := by
  unfold kindsP
  rw [takeS_bad S 1 τ h]
  exact listF_bad (kindP_bad S) _ _ _ h
theorem regP_bad (S : List UInt8) (τ : RS) (h : τ.e ≠ 0) : (regP S τ).2 = τ := by
  have h4 := takeS_bad S 4 τ h
  have h2 := takeS_bad S 2 τ h
  have hs : regS S τ = τ := by unfold regS; rw [h4, h4, h2]
  unfold regP
  rw [hs]
  split
  · exact listF_bad (slotP_bad S) _ _ _ h
  · show takeS S _ (takeS S 2 τ) = τ
    rw [h2, takeS_bad S _ τ h]
theorem codeP_bad (S : List UInt8) (τ : RS) (h : τ.e ≠ 0) : (codeP S 0 τ).2 = τ := by
  have w0 : wholeN S 0 τ = 0 := by unfold wholeN; simp
  have v0 : takeV S 0 τ = [] := by unfold takeV; rw [if_neg h]
  have d0 : decB S 0 τ = ([], 0, 0) := by unfold decB; rw [w0, Nat.zero_mul, v0, decA_nil]
  have s0 : codeS1 S 0 τ = τ := by
    unfold codeS1
    rw [d0, if_pos rfl, w0]
    exact takeS_bad S _ τ h
  unfold codeP
  rw [w0, if_neg (by omega), s0]
theorem compP_bad (S : List UInt8) (τ : RS) (h : τ.e ≠ 0) : (compP S τ).2 = τ := by
  have h1 := takeS_bad S 1 τ h
  have hr : (rootsP S τ).2 = τ := by
    unfold rootsP
    rw [h1]
    exact listF_bad (rootP_bad S) _ _ _ h
  have h2 := takeS_bad S 2 τ h
  have n2 : numV S 2 τ = 0 := num_bad S 2 τ (by rw [h2]; exact h)
  show (insP S (rootsP S τ).2).2 = τ
  rw [hr]
  unfold insP
  rw [n2, h2]
  exact codeP_bad S τ h
theorem gateP_bad (S : List UInt8) (τ : RS) (h : τ.e ≠ 0) : (gateP S τ).2 = τ := by
  have h1 := takeS_bad S 1 τ h
  have h2 := takeS_bad S 2 τ h
  have hs : gateS S τ = τ := by unfold gateS; rw [h1, h2]
  show (kindsP S (kindsP S (gateS S τ)).2).2 = τ
  rw [hs, kindsP_bad S τ h, kindsP_bad S τ h]
/-- A loop that reads, of a reader whose state is as good as the program's. -/
def Lk {α : Type} (f : RS → α × RS) (R : List α × RS) (m : Nat) (τ : RS) (L : List α) : Prop := (τ.e = 0 → listF f m τ L = R) ∧ (τ.e ≠ 0 → Like τ R.2)
theorem Lk.start {α : Type} {f : RS → α × RS} (hf : ∀ τ : RS, τ.e ≠ 0 → (f τ).2 = τ) (N : Nat) {τ σ : RS} (h : Like τ σ) : Lk f (listF f N σ []) N τ [] := by
  refine ⟨fun q => ?_, fun q => ?_⟩
  · rw [h.eq (h.e.symm.trans q)]
  · have : σ.e ≠ 0 := fun z => q (h.e.trans z)
    rw [listF_bad hf N σ [] this]
    exact h
theorem Lk.step {α : Type} {f : RS → α × RS} {R : List α × RS} {m : Nat} {τ τ' : RS} {L : List α} (h : Lk f R m τ L) (hm : 0 < m) (he : τ.e = 0) (hl : Like τ' (f τ).2) (x : α) (hx : (f τ).2.e = 0 → x = (f τ).1) : Lk f R (m - 1) τ' (L ++ [x]) := by
  have h1 := h.1 he
  obtain ⟨q, rfl⟩ : ∃ q, m = q + 1 := ⟨m - 1, by omega⟩
  rw [listF] at h1
  refine ⟨fun q1 => ?_, fun q1 => ?_⟩
  · have q2 : (f τ).2.e = 0 := hl.e.symm.trans q1
    rw [if_pos q2] at h1
    rw [hx q2, hl.eq q2]
    exact h1
  · rw [if_neg (fun z => q1 (hl.e.trans z))] at h1
    rw [← h1]
    exact hl
theorem Lk.done {α : Type} {f : RS → α × RS} {R : List α × RS} {m : Nat} {τ : RS} {L : List α} (h : Lk f R m τ L) (hm : m = 0 ∨ τ.e ≠ 0) : Like τ R.2 ∧ (R.2.e = 0 → L = R.1) := by
  by_cases he : τ.e = 0
  · have h1 := h.1 he
    have hm : m = 0 := hm.elim (fun q => q) (fun q => absurd he q)
    rw [hm, listF] at h1
    rw [← h1]
    exact ⟨Like.refl _, fun _ => rfl⟩
  · have h1 := h.2 he
    exact ⟨h1, fun q => absurd (h1.e.trans q) he⟩
/-- Without an error there is no place. -/
def Pz (σ : RS) : Prop := σ.e = 0 → σ.p = 0
theorem Pz.take {S : List UInt8} {n : Nat} {σ : RS} (h : Pz σ) : Pz (takeS S n σ) := fun q => by
  have q2 := take_e0 q
  have q3 := h q2
  unfold takeS at q ⊢
  rw [if_pos q2] at q ⊢
  split
  · exact q3
  · rename_i z
    rw [if_neg z] at q
    simp at q
theorem Pz.fail {σ : RS} (e p : Int) (_ : Pz σ) (he : e ≠ 0) : Pz (failS e p σ) := fun q => absurd q (failS_e e p σ he)
theorem Pz.list {α : Type} {f : RS → α × RS} (hf : ∀ τ, Pz τ → Pz (f τ).2) : ∀ (n : Nat) (τ : RS) (L : List α), Pz τ → Pz (listF f n τ L).2
  | 0, _, _, h => h
  | n + 1, τ, L, h => by
    rw [listF]
    split
    · exact Pz.list hf n _ _ (hf τ h)
    · exact hf τ h
theorem Pz.kind {S : List UInt8} {τ : RS} (h : Pz τ) : Pz (kindP S τ).2 := by
  unfold kindP
  split
  · exact h.take
  · split
    · exact h.take.take.take.take.take.take.take
    · exact h.take.fail _ _ (by decide)
theorem Pz.slot {S : List UInt8} {τ : RS} (h : Pz τ) : Pz (slotP S τ).2 := h.kind.take
theorem Pz.root {S : List UInt8} {τ : RS} (h : Pz τ) : Pz (rootP S τ).2 := h.take.take.take.take.take.take
theorem Pz.kinds {S : List UInt8} {τ : RS} (h : Pz τ) : Pz (kindsP S τ).2 := Pz.list (fun _ q => q.kind) _ _ _ h.take
theorem Pz.reg {S : List UInt8} {τ : RS} (h : Pz τ) : Pz (regP S τ).2 := by
  unfold regP
  split
  · exact Pz.list (fun _ q => q.slot) _ _ _ h.take.take.take
  · exact h.take.take.take.take.take
theorem Pz.code {S : List UInt8} {n : Nat} {τ : RS} (h : Pz τ) : Pz (codeP S n τ).2 := by
  have h1 : Pz (codeS1 S n τ) := by
    unfold codeS1
    split
    · exact h.take
    · rename_i z
      exact h.take.fail _ _ z
  show Pz (if wholeN S n τ < n then failS 41 S.length (codeS1 S n τ) else codeS1 S n τ)
  split
  · exact h1.fail _ _ (by decide)
  · exact h1
theorem Pz.comp {S : List UInt8} {τ : RS} (h : Pz τ) : Pz (compP S τ).2 := Pz.code (Pz.take (Pz.list (fun _ q => q.root) _ _ _ h.take))
theorem Pz.gate {S : List UInt8} {τ : RS} (h : Pz τ) : Pz (gateP S τ).2 := h.take.take.kinds.kinds
theorem h4_pz (S : List UInt8) : Pz (h4S S) := Pz.take (Pz.take (Pz.take (Pz.take (fun _ => rfl))))
theorem gatesP_pz (S : List UInt8) : Pz (gatesP S).2 := Pz.list (fun _ q => q.gate) _ _ _ (Pz.list (fun _ q => q.comp) _ _ _ (Pz.list (fun _ q => q.reg) _ _ _ (h4_pz S)))
theorem gates_e0 {S : List UInt8} (h : (gatesP S).2.e = 0) : (compsP S).2.e = 0 ∧ (regsP S).2.e = 0 := by
  have h1 : (compsP S).2.e = 0 := by
    refine Classical.byContradiction fun q => ?_
    have : (gatesP S).2 = (compsP S).2 := listF_bad (gateP_bad S) _ _ _ q
    rw [this] at h
    exact q h
  refine ⟨h1, Classical.byContradiction fun q => ?_⟩
  have : (compsP S).2 = (regsP S).2 := listF_bad (compP_bad S) _ _ _ q
  rw [this] at h1
  exact q h1
theorem decI_main {S : List UInt8} (hl : ¬ 40000 < S.length) (hp : magicB <+: S) : decI S = if (restS S (gatesP S).2).e = 0 then (if (PImg.mk (regsP S).1 (compsP S).1 (gatesP S).1 (numV S 1 h0S)).right = 0 then (⟨(regsP S).1, (compsP S).1, (gatesP S).1, numV S 1 h0S⟩, 0, 0) else (zImg, (PImg.mk (regsP S).1 (compsP S).1 (gatesP S).1 (numV S 1 h0S)).right, 0)) else (zImg, (restS S (gatesP S).2).e, (restS S (gatesP S).2).p) := by
  unfold decI
  rw [if_neg hl]
  have : imgP S = (⟨(regsP S).1, (compsP S).1, (gatesP S).1, numV S 1 h0S⟩, restS S (gatesP S).2) := if_pos hp
  rw [this]
theorem rest_bad {S : List UInt8} {σ : RS} (h : σ.e ≠ 0) : restS S σ = σ := by
  unfold restS
  split
  · exact failS_bad _ _ h
  · rfl
end Go.Proofs.YtdmkedpnkejpbaaDoor


/-
  Stage 4, image: the document's own answer: a capability, a type.
-/
namespace Go.Proofs.YtdmkedpnkejpbaaDoor
open Go.RowKit

theorem cast_bit (a j : Nat) : ((a / 2 ^ j % 2 : Nat) : Int) = (a : Int) / 2 ^ j % 2 := by simp
theorem bit_cast (a j : Nat) : ((a : Int) / 2 ^ j % 2 = 1) ↔ a / 2 ^ j % 2 = 1 := by
  have := cast_bit a j
  omega
theorem pow_le7 (i : Nat) (h : i ≤ 7) : (2 : Int) ^ i ≤ 128 := by
  have : i = 0 ∨ i = 1 ∨ i = 2 ∨ i = 3 ∨ i = 4 ∨ i = 5 ∨ i = 6 ∨ i = 7 := by omega
  rcases this with rfl | rfl | rfl | rfl | rfl | rfl | rfl | rfl <;> decide
def HasUpto (p q : Int) (i : Nat) : Prop := ∀ j, j < i → q / 2 ^ j % 2 = 1 → p / 2 ^ j % 2 = 1

theorem andNot_iff (a b : Nat) (_ha : a < 256) (hb : b < 256) : a &&& (255 - b) = 0 ↔ ∀ j, j < 8 → a / 2 ^ j % 2 = 1 → b / 2 ^ j % 2 = 1 := by
  have hs : ∀ j, (255 - b).testBit j = (decide (j < 8) && !b.testBit j) := by
    intro j
    have := Nat.testBit_two_pow_sub_succ (x := b) (n := 8) (by simpa using hb) j
    simpa using this
  constructor
  · intro h j hj h1
    have ht : (a &&& (255 - b)).testBit j = false := by rw [h]; simp
    rw [Nat.testBit_and, hs] at ht
    simp only [Nat.testBit_eq_decide_div_mod_eq] at ht
    simpa [hj, h1] using ht
  · intro h
    apply Nat.eq_of_testBit_eq
    intro j
    rw [Nat.testBit_and, hs, Nat.zero_testBit]
    by_cases hj : j < 8
    · have := h j hj
      simp only [Nat.testBit_eq_decide_div_mod_eq]
      by_cases h1 : a / 2 ^ j % 2 = 1
      · simp [this h1]
      · simp [h1]
    · simp [hj]

theorem hasB_iff (p q : Int) (hp0 : 0 ≤ p) (hp1 : p < 256) (hq0 : 0 ≤ q) (hq1 : q < 256) : hasB p q = true ↔ HasUpto p q 8 := by
  obtain ⟨a, rfl⟩ := Int.eq_ofNat_of_zero_le hp0
  obtain ⟨b, rfl⟩ := Int.eq_ofNat_of_zero_le hq0
  unfold hasB HasUpto
  rw [u8_andNot_nat _ _ (by omega) (by omega)]
  have key := andNot_iff b a (by omega) (by omega)
  constructor
  · intro h j hj h1
    have h' : b &&& (255 - a) = 0 := by simpa using h
    exact (bit_cast a j).mpr (key.mp h' j hj ((bit_cast b j).mp h1))
  · intro h
    have : b &&& (255 - a) = 0 := key.mpr fun j hj h1 => (bit_cast a j).mp (h j hj ((bit_cast b j).mpr h1))
    simp [this]

theorem pow_small {i : Nat} {B : Int} (hi : i ≤ 8) (hB : B = 2 ^ i) (h : B ≤ 128) : i < 8 := by
  have : i ≠ 8 := by rintro rfl; subst hB; omega
  omega
theorem pow_great {i : Nat} {B : Int} (hi : i ≤ 8) (hB : B = 2 ^ i) (h : ¬ B ≤ 128) : i = 8 := by
  have : i < 9 := by omega
  rcases Nat.lt_or_ge i 8 with h8 | h8
  · exfalso
    have := pow_le7 i (by omega)
    omega
  · omega
theorem tmod2 {q B : Int} (h : 0 ≤ q) (hB : 1 ≤ B) : (q / B).tmod 2 = q / B % 2 := Int.tmod_eq_emod_of_nonneg (Int.ediv_nonneg h (by omega))
theorem has_no {p q B : Int} {i : Nat} (hp0 : 0 ≤ p) (hp1 : p < 256) (hq0 : 0 ≤ q) (hq1 : q < 256) (hi : i < 8) (hB : B = 2 ^ i) (h1 : 1 ≤ B) (c1 : (q / B).tmod 2 = 1) (c2 : ((p / B).tmod 2 == 0) = true) : false = hasB p q := by
  rw [tmod2 hq0 h1] at c1
  rw [tmod2 hp0 h1] at c2
  have c2' : p / B % 2 = 0 := by simpa using c2
  symm
  rw [Bool.eq_false_iff]
  intro h
  have := (hasB_iff p q hp0 hp1 hq0 hq1).mp h i hi (by rw [← hB]; exact c1)
  rw [← hB] at this
  omega
theorem has_yes {p q B : Int} {i : Nat} (hp0 : 0 ≤ p) (hB : B = 2 ^ i) (h1 : 1 ≤ B) (hu : HasUpto p q i) (c2 : ((p / B).tmod 2 == 0) = false) : HasUpto p q (i + 1) := by
  rw [tmod2 hp0 h1] at c2
  have c2' : ¬ p / B % 2 = 0 := by simpa using c2
  intro j hj h
  rcases Nat.lt_or_ge j i with hlt | hge
  · exact hu j hlt h
  · obtain rfl : j = i := by omega
    rw [← hB]; omega
theorem has_skip {p q B : Int} {i : Nat} (hq0 : 0 ≤ q) (hB : B = 2 ^ i) (h1 : 1 ≤ B) (hu : HasUpto p q i) (c1 : ¬ (q / B).tmod 2 = 1) : HasUpto p q (i + 1) := by
  rw [tmod2 hq0 h1] at c1
  intro j hj h
  rcases Nat.lt_or_ge j i with hlt | hge
  · exact hu j hlt h
  · obtain rfl : j = i := by omega
    rw [hB] at c1; exact absurd h c1
theorem pow_next {i : Nat} {B : Int} (hB : B = 2 ^ i) : 2 * B = 2 ^ (i + 1) := by rw [hB, Int.pow_succ]; omega
set_option maxHeartbeats 400000 in
theorem refHas_any (p q : Int) (w : World) (hp0 : 0 ≤ p) (hp1 : p < 256) (hq0 : 0 ≤ q) (hq1 : q < 256) :
    Calls Tryd.prog 96 #[.int .i64 p, .int .i64 q] w fun x w' => x = .returned (.bool (hasB p q)) ∧ w = w' := by
  go_enter Tryd.func96, Tryd.ntmps96
  go_wp2
  go_loop [5] (fun t => ∃ (i : Nat) (B : Int), i ≤ 8 ∧ Hid (B = 2 ^ i) ∧ 1 ≤ B ∧ B ≤ 256 ∧ t = .int .i64 B ∧ HasUpto p q i) (fun t => (256 - intOf t).toNat)
  case atStart => exact ⟨0, 1, by omega, ⟨rfl⟩, by omega, by omega, rfl, fun j hj => by omega⟩
  case round =>
    obtain ⟨i, B, hi, hB, h1, h2, rfl, hu⟩ := hrel
    by_cases hlt : B ≤ 128
    · have hi8 := pow_small hi hB.out hlt
      go_wp2
      · go_ret
        exact ⟨ret_bool (has_no hp0 hp1 hq0 hq1 hi8 hB.out h1 ‹_› ‹_›), rfl⟩
      · refine ⟨⟨i + 1, 2 * B, by omega, ⟨pow_next hB.out⟩, by omega, by omega, rfl, has_yes hp0 hB.out h1 hu ‹_›⟩, ?_⟩
        simp [intOf]; omega
      · refine ⟨⟨i + 1, 2 * B, by omega, ⟨pow_next hB.out⟩, by omega, by omega, rfl, has_skip hq0 hB.out h1 hu ‹_›⟩, ?_⟩
        simp [intOf]; omega
    · have hi8 := pow_great hi hB.out hlt
      go_wp2
      go_ret
      refine ⟨ret_bool ?_, rfl⟩
      subst hi8
      exact ((hasB_iff p q hp0 hp1 hq0 hq1).mpr hu).symm
set_option maxHeartbeats 1000000 in
theorem refCapRight_any (b e c p s : Int) (w : World) (hp : B8 p) :
    Calls Tryd.prog 88 #[.agg #[.int .u64 b, .int .u64 e, .int .u64 c, .int .u8 p, .int .i64 s]] w fun x w' => x = .returned (.bool (rightB b e p s)) ∧ w.alloc (.cells #[.int .u64 b, .int .u64 e, .int .u64 c, .int .u8 p, .int .i64 s] 39) = w' := by
  have hh := fun W => refHas_any 127 p W (by omega) (by omega) hp.1 hp.2
  have hw : IntKind.i64.wrap p = p := by have := hp.1; have := hp.2; rw [IntKind.wrap_i64]; omega
  go_enter Tryd.func88, Tryd.ntmps88
  go_wp2_with (go_at_call 96; refine (hh _).mono ?_; rintro x w' ⟨rfl, rfl⟩)
  all_goals
    go_ret
    refine ⟨ret_bool ?_, rfl⟩
    first | (refine right_last ?_ ?_ ?_ ?_ <;> assumption) | (refine right_false ?_; rintro ⟨h1, h2, h3, h4, h5⟩; first | omega | contradiction)
theorem and16 {p : Int} (hp : B8 p) : (bits .and .u8 p 16 == 0) = (p / 16 % 2 == 0) := by
  have := all_bytes (fun n => (bits .and .u8 (n : Int) 16 == 0) == ((n : Int) / 16 % 2 == 0)) (by kernel_rfl) p hp.2
  have e : ((p.toNat : Nat) : Int) = p := Int.toNat_of_nonneg hp.1
  simp only [e] at this
  simpa using this
set_option maxHeartbeats 1000000 in
theorem refFit_any (b e c p s : Int) (w : World) (hp : B8 p) :
    Calls Tryd.prog 69 #[.agg #[.int .u64 b, .int .u64 e, .int .u64 c, .int .u8 p, .int .i64 s]] w fun x w' => x = .returned (.bool (dataB b e p s)) ∧ Gr w w' := by
  have h16 := and16 hp
  unfold dataB
  rw [h16]
  have hc := fun W => refCapRight_any b e c p s W hp
  have hp0 := hp.1
  have hp1 := hp.2
  generalize rightB b e p s = r at *
  clear h16
  cases r
  all_goals
    go_enter Tryd.func69, Tryd.ntmps69
    go_wp2_with (go_at_call 88; refine (hc _).mono ?_; rintro x w' ⟨rfl, rfl⟩)
    go_ret
    refine ⟨ret_bool (by simp), ?_⟩
    repeat (first | exact Gr.refl _ | refine Gr.alloc ?_ _)
set_option maxHeartbeats 1000000 in
theorem refCapOf_at (t : PTyp) (c : Int) (w : World) :
    Calls Tryd.prog 87 #[.agg #[.bool t.cap, .int .u64 t.b, .int .u64 t.e, .int .u64 t.lo, .int .u64 t.hi, .int .u8 t.p, .int .i64 t.s], .int .u64 c] w fun x w' => x = .returned (.agg #[.int .u64 t.b, .int .u64 t.e, .int .u64 c, .int .u8 t.p, .int .i64 t.s]) ∧ Gr w w' := by
  go_enter Tryd.func87, Tryd.ntmps87
  go_wp2
  all_goals
    simp [bodyPost, results, Tryd.results87, go_sem]
    repeat (first | exact Gr.refl _ | refine Gr.alloc ?_ _)
set_option maxHeartbeats 1000000 in
theorem refRightType_any (t : PTyp) (w : World) (hr : t.Rng) :
    Calls Tryd.prog 68 #[.agg #[.bool t.cap, .int .u64 t.b, .int .u64 t.e, .int .u64 t.lo, .int .u64 t.hi, .int .u8 t.p, .int .i64 t.s]] w fun x w' => x = .returned (.bool t.right) ∧ Gr w w' := by
  have hc := refCapOf_at t 0
  cases ht : t.cap with
  | false =>
    go_enter Tryd.func68, Tryd.ntmps68
    go_wp2
    all_goals
      go_ret
      refine ⟨ret_bool (by simp_all [PTyp.right]), ?_⟩
      (with_reducible repeat (first | exact Gr.refl _ | refine Gr.alloc ?_ _ | refine Gr.grow ?_ _ | refine Gr.drew ?_ | refine Gr.setCell ?_ _ _ _ (gr_size ?_)))
  | true =>
    rw [ht] at hc
    have hd := fun W => refFit_any t.b t.e 0 t.p t.s W hr.2.2.2.2.1
    have e : t.right = (dataB t.b t.e t.p t.s && decide (t.lo ≤ t.hi)) := by simp [PTyp.right, ht]
    rw [e]
    clear e ht hr
    generalize dataB t.b t.e t.p t.s = q at hd ⊢
    have L1 := grow_cell; have L2 := grow_frozen; have L3 := grow_set; have L4 := grow_lt; have L5 := glt1; have L6 := glt2; have L7 := glt3; have L8 := glt4; have L9 := glt5; have L10 := glt6; have L11 := lt1; have L12 := lt2; have L13 := lt3; have L14 := lt4; have L15 := lt5; have L16 := lt6; have L17 := lt7; have L18 := lt8
    cases q
    all_goals
      go_enter Tryd.func68, Tryd.ntmps68
      go_wp2_with (first | (go_at_call 87; refine (hc _).mono ?_; rintro x w' ⟨rfl, hG⟩; (repeat (replace hG := Gr.of_grow hG)); obtain ⟨l, rfl⟩ := hG) | (go_at_call 69; refine (hd _).mono ?_; rintro x w' ⟨rfl, hG⟩; (repeat (replace hG := Gr.of_grow hG)); obtain ⟨l, rfl⟩ := hG))
      go_ret
      refine ⟨ret_bool (by simp), ?_⟩
      (with_reducible repeat (first | exact Gr.refl _ | refine Gr.alloc ?_ _ | refine Gr.grow ?_ _ | refine Gr.drew ?_ | refine Gr.setCell ?_ _ _ _ (gr_size ?_)))
end Go.Proofs.YtdmkedpnkejpbaaDoor
