import Derived.Test.YtdmkedpnkejpbaaDoorMRdD
import Derived.Test.YtdmkedpnkejpbaaDoorP35
import Derived.Test.YtdmkedpnkejpbaaDoorP03
import Derived.Great.Walk
/-
  Stage 4, image: what the document's reader reads, against the program's (code one by one). No Go in sight.
-/
namespace Go.Proofs.YtdmkedpnkejpbaaDoor
open Go.RowKit

/-- Two states of which one is as good as the other: the first error, its place; where there is none, the place. -/
structure Like (σ τ : RS) : Prop where
  e : σ.e = τ.e
  p : σ.p = τ.p
  i : τ.e = 0 → σ.i = τ.i
theorem Like.refl (σ : RS) : Like σ σ := ⟨rfl, rfl, fun _ => rfl⟩
theorem Like.eq {σ τ : RS} (h : Like σ τ) (he : τ.e = 0) : σ = τ := by
  obtain ⟨i, e, p⟩ := σ
  obtain ⟨j, f, q⟩ := τ
  obtain ⟨h1, h2, h3⟩ := h
  simp only at h1 h2 h3 he
  rw [h1, h2, h3 he]
/-- One instruction. -/
def oneS (S : List UInt8) (σ : RS) : RS := if (decA (takeV S 8 σ)).2.1 = 0 then takeS S 8 σ else failS (decA (takeV S 8 σ)).2.1 σ.i (takeS S 8 σ)
def oneL (S : List UInt8) (σ : RS) : List Ins := (decA (takeV S 8 σ)).1
def cdF (S : List UInt8) : Nat → RS → List Ins → List Ins × RS
  | 0, σ, L => (L, σ)
  | n + 1, σ, L => if σ.e = 0 then cdF S n (oneS S σ) (L ++ oneL S σ) else (L, σ)
theorem oneS_in {S : List UInt8} {σ : RS} (h : σ.In S) : (oneS S σ).In S := by
  unfold oneS
  split
  · exact takeS_in _ h
  · exact failS_in _ _ (takeS_in _ h)
theorem cdF_bad (S : List UInt8) (n : Nat) (σ : RS) (L : List Ins) (h : σ.e ≠ 0) : cdF S n σ L = (L, σ) := by
  cases n with
  | zero => rfl
  | succ n => rw [cdF, if_neg h]
theorem byteAt_app (T U : List UInt8) (j : Nat) (h : j < T.length) : byteAt (T ++ U) j = byteAt T j := by
  unfold byteAt
  simp [List.getElem?_append, h]
theorem insOf_app (T U : List UInt8) (h : T.length = 8) : insOf (T ++ U) = insOf T := by
  unfold insOf
  rw [byteAt_app T U 0 (by omega), byteAt_app T U 1 (by omega), byteAt_app T U 2 (by omega), byteAt_app T U 3 (by omega), byteAt_app T U 4 (by omega), byteAt_app T U 5 (by omega), byteAt_app T U 6 (by omega), byteAt_app T U 7 (by omega)]
theorem readE_app (T U : List UInt8) (h : T.length = 8) : readE (T ++ U) = (insOf T).right := by
  unfold readE
  rw [if_neg (by rw [List.length_append]; omega), insOf_app T U h]
theorem decA_nil : decA [] = ([], 0, 0) := by unfold decA; rw [decF, if_pos rfl]
theorem decA_bad1 (T U : List UInt8) (h : T.length = 8) (he : (insOf T).right ≠ 0) : decA (T ++ U) = ([], (insOf T).right, 0) := by
  unfold decA
  rw [decF, if_neg (by intro q; have q2 := congrArg List.length q; rw [List.length_append, h] at q2; simp only [List.length_nil] at q2; omega), if_neg (by rw [readE_app T U h]; exact he), readE_app T U h]
  rfl
theorem decA_ok1 (T U : List UInt8) (h : T.length = 8) (he : (insOf T).right = 0) :
    (decA (T ++ U)).2.1 = (decA U).2.1 ∧ ((decA U).2.1 = 0 → (decA (T ++ U)).1 = insOf T :: (decA U).1) ∧ ((decA U).2.1 ≠ 0 → (decA (T ++ U)).1 = [] ∧ (decA (T ++ U)).2.2 = 8 + (decA U).2.2) := by
  have e : decA (T ++ U) = decF (U.length + 1) U 8 [insOf T] := by
    unfold decA
    rw [decF, if_neg (by intro q; have q2 := congrArg List.length q; rw [List.length_append, h] at q2; simp only [List.length_nil] at q2; omega), if_pos (by rw [readE_app T U h]; exact he), insOf_app T U h]
    have hd : (T ++ U).drop 8 = U := by rw [List.drop_append, h]; simp [List.drop_of_length_le (Nat.le_of_eq h)]
    rw [hd]
    exact dec_more _ _ _ _ _ (by rw [List.length_append]; omega) (by omega)
  rw [e]
  obtain ⟨h1, h2, h3⟩ := dec_shift (U.length + 1) U 0 8 [] [insOf T]
  refine ⟨h1.symm, fun q => ?_, fun q => ?_⟩
  · obtain ⟨L, e1, e2⟩ := h2 q
    unfold decA
    rw [e1, e2]; simp
  · obtain ⟨_, e2, e3⟩ := h3 q
    refine ⟨e2, ?_⟩
    unfold decA
    omega
theorem take8 {S : List UInt8} {σ : RS} (he : σ.e = 0) (h : σ.i + 8 ≤ S.length) : takeS S 8 σ = ⟨σ.i + 8, 0, σ.p⟩ ∧ takeV S 8 σ = sub S σ.i 8 := by
  unfold takeS takeV
  rw [if_pos he, if_pos h, if_pos he, if_pos h]
  exact ⟨rfl, rfl⟩
theorem sub_split (S : List UInt8) (i n : Nat) (h : i + 8 + n ≤ S.length) : sub S i (8 + n) = sub S i 8 ++ sub S (i + 8) n := by
  apply List.ext_getElem?
  intro j
  have h8 : (sub S i 8).length = 8 := sub_length (by omega)
  rw [List.getElem?_append, h8]
  unfold sub
  split
  · rw [List.getElem?_drop, List.getElem?_drop, List.getElem?_take, List.getElem?_take, if_pos (by omega), if_pos (by omega)]
  · rw [List.getElem?_drop, List.getElem?_drop, List.getElem?_take, List.getElem?_take]
    have e1 : i + 8 + (j - 8) = i + j := by omega
    rw [e1]
    by_cases q : i + j < i + (8 + n)
    · rw [if_pos q, if_pos (by omega)]
    · rw [if_neg q, if_neg (by omega)]
theorem failS_bad {σ : RS} (e p : Int) (h : σ.e ≠ 0) : failS e p σ = σ := if_neg h
theorem failS_ok {σ : RS} (e p : Int) (h : σ.e = 0) : failS e p σ = ⟨σ.i, e, p⟩ := if_pos h
theorem code_like (S : List UInt8) : ∀ (n : Nat) (σ : RS) (L : List Ins), σ.e = 0 → σ.In S →
    Like (cdF S n σ L).2 (codeP S n σ).2 ∧ ((codeP S n σ).2.e = 0 → (cdF S n σ L).1 = L ++ (codeP S n σ).1)
  | 0, σ, L, he, hi => by
    obtain ⟨i, e, p⟩ := σ
    simp only at he
    subst he
    have w0 : wholeN S 0 ⟨i, 0, p⟩ = 0 := by unfold wholeN; simp
    have v0 : takeV S 0 ⟨i, 0, p⟩ = [] := by
      unfold takeV RS.In at *
      simp only at hi
      rw [if_pos rfl, if_pos (by omega)]
      exact List.length_eq_zero_iff.1 (sub_length (by omega))
    have d0 : decB S 0 ⟨i, 0, p⟩ = ([], 0, 0) := by unfold decB; rw [w0, Nat.zero_mul, v0, decA_nil]
    have s0 : codeS1 S 0 ⟨i, 0, p⟩ = ⟨i, 0, p⟩ := by
      unfold codeS1
      rw [d0, if_pos rfl, w0]
      unfold takeS RS.In at *
      simp only at hi
      rw [if_pos rfl, if_pos (by omega)]
      simp
    have c0 : codeP S 0 ⟨i, 0, p⟩ = ([], ⟨i, 0, p⟩) := by
      unfold codeP
      rw [w0, if_neg (by omega), s0, d0]
    rw [c0, cdF]
    exact ⟨Like.refl _, fun _ => by simp⟩
  | n + 1, σ, L, he, hi => by
    obtain ⟨i, e, p⟩ := σ
    simp only at he
    subst he
    rw [cdF, if_pos rfl]
    by_cases h8 : i + 8 ≤ S.length
    · obtain ⟨t1, t2⟩ := take8 (S := S) (σ := ⟨i, 0, p⟩) rfl h8
      simp only at t1 t2
      have hl : (sub S i 8).length = 8 := sub_length h8
      have hw : wholeN S (n + 1) ⟨i, 0, p⟩ = wholeN S n ⟨i + 8, 0, p⟩ + 1 := by
        unfold wholeN
        simp only
        have : (S.length - i) / 8 = (S.length - (i + 8)) / 8 + 1 := by omega
        omega
      have hk : (wholeN S n ⟨i + 8, 0, p⟩) * 8 ≤ S.length - (i + 8) := by unfold wholeN; simp only; omega
      have v1 : takeV S (wholeN S (n + 1) ⟨i, 0, p⟩ * 8) ⟨i, 0, p⟩ = sub S i 8 ++ takeV S (wholeN S n ⟨i + 8, 0, p⟩ * 8) ⟨i + 8, 0, p⟩ := by
        rw [hw]
        generalize wholeN S n ⟨i + 8, 0, p⟩ = k at *
        unfold takeV
        simp only
        rw [if_pos trivial, if_pos trivial, if_pos (by omega), if_pos (by omega)]
        have e1 : (k + 1) * 8 = 8 + k * 8 := by omega
        rw [e1]
        exact sub_split S i (k * 8) (by omega)
      have s1 : takeS S (wholeN S (n + 1) ⟨i, 0, p⟩ * 8) ⟨i, 0, p⟩ = takeS S (wholeN S n ⟨i + 8, 0, p⟩ * 8) ⟨i + 8, 0, p⟩ := by
        rw [hw]
        generalize wholeN S n ⟨i + 8, 0, p⟩ = k at *
        unfold takeS
        simp only
        rw [if_pos trivial, if_pos trivial, if_pos (by omega), if_pos (by omega)]
        congr 1
        omega
      by_cases hr : (insOf (sub S i 8)).right = 0
      · have q1 := decA_ok1 (sub S i 8) [] hl hr
        rw [List.append_nil, decA_nil] at q1
        have o1 : oneS S ⟨i, 0, p⟩ = ⟨i + 8, 0, p⟩ := by unfold oneS; rw [t2, if_pos q1.1, t1]
        have o2 : oneL S ⟨i, 0, p⟩ = [insOf (sub S i 8)] := by unfold oneL; rw [t2, q1.2.1 rfl]
        rw [o1, o2]
        obtain ⟨l1, l2⟩ := code_like S n ⟨i + 8, 0, p⟩ (L ++ [insOf (sub S i 8)]) rfl h8
        have q2 := decA_ok1 (sub S i 8) (takeV S (wholeN S n ⟨i + 8, 0, p⟩ * 8) ⟨i + 8, 0, p⟩) hl hr
        rw [← v1] at q2
        have b1 : decA (takeV S (wholeN S (n + 1) ⟨i, 0, p⟩ * 8) ⟨i, 0, p⟩) = decB S (n + 1) ⟨i, 0, p⟩ := rfl
        have b2 : decA (takeV S (wholeN S n ⟨i + 8, 0, p⟩ * 8) ⟨i + 8, 0, p⟩) = decB S n ⟨i + 8, 0, p⟩ := rfl
        rw [b1, b2] at q2
        by_cases hd : (decB S n ⟨i + 8, 0, p⟩).2.1 = 0
        · have c1 : (codeP S (n + 1) ⟨i, 0, p⟩).2 = (codeP S n ⟨i + 8, 0, p⟩).2 := by
            unfold codeP codeS1
            simp only
            rw [if_pos (q2.1.trans hd), if_pos hd, s1, hw]
            by_cases z : wholeN S n ⟨i + 8, 0, p⟩ < n
            · rw [if_pos z, if_pos (by omega)]
            · rw [if_neg z, if_neg (by omega)]
          rw [c1]
          refine ⟨l1, fun q => ?_⟩
          rw [l2 q]
          show L ++ [insOf (sub S i 8)] ++ (decB S n ⟨i + 8, 0, p⟩).1 = L ++ (decB S (n + 1) ⟨i, 0, p⟩).1
          rw [q2.2.1 hd]
          simp
        · have hd2 : (decB S (n + 1) ⟨i, 0, p⟩).2.1 ≠ 0 := fun q => hd (q2.1.symm.trans q)
          have st : ∀ (m : Nat) (τ : RS), τ.e = 0 → τ.i + wholeN S m τ * 8 ≤ S.length → (decB S m τ).2.1 ≠ 0 → (codeP S m τ).2 = ⟨τ.i + wholeN S m τ * 8, (decB S m τ).2.1, τ.i + (decB S m τ).2.2⟩ := by
            intro m τ z0 z1 z2
            have z3 : takeS S (wholeN S m τ * 8) τ = ⟨τ.i + wholeN S m τ * 8, 0, τ.p⟩ := by unfold takeS; rw [if_pos z0, if_pos z1]
            have z4 : codeS1 S m τ = ⟨τ.i + wholeN S m τ * 8, (decB S m τ).2.1, τ.i + (decB S m τ).2.2⟩ := by
              unfold codeS1
              rw [if_neg z2, z3, failS_ok _ _ rfl]
            unfold codeP
            simp only
            rw [z4, failS_bad _ _ z2]
            split <;> rfl
          have r1 := st n ⟨i + 8, 0, p⟩ rfl (by simp only; omega) hd
          have r2 := st (n + 1) ⟨i, 0, p⟩ rfl (by simp only; rw [hw]; omega) hd2
          rw [r1] at l1 l2
          rw [r2]
          refine ⟨⟨l1.e.trans q2.1.symm, l1.p.trans ?_, fun q => absurd q hd2⟩, fun q => absurd q hd2⟩
          have := (q2.2.2 hd).2
          simp only
          rw [this]
          simp only [Int.natCast_add]
          omega
      · have q1 := decA_bad1 (sub S i 8) [] hl hr
        rw [List.append_nil] at q1
        have q2 := decA_bad1 (sub S i 8) (takeV S (wholeN S n ⟨i + 8, 0, p⟩ * 8) ⟨i + 8, 0, p⟩) hl hr
        rw [← v1] at q2
        have o1 : oneS S ⟨i, 0, p⟩ = ⟨i + 8, (insOf (sub S i 8)).right, i⟩ := by
          unfold oneS
          rw [t2, q1, if_neg hr, t1, failS_ok _ _ rfl]
        have d1 : decB S (n + 1) ⟨i, 0, p⟩ = ([], (insOf (sub S i 8)).right, 0) := q2
        have z3 : takeS S (wholeN S n ⟨i + 8, 0, p⟩ * 8) ⟨i + 8, 0, p⟩ = ⟨i + 8 + wholeN S n ⟨i + 8, 0, p⟩ * 8, 0, p⟩ := by
          unfold takeS
          simp only
          rw [if_pos trivial, if_pos (by omega)]
        have z4 : codeS1 S (n + 1) ⟨i, 0, p⟩ = ⟨i + 8 + wholeN S n ⟨i + 8, 0, p⟩ * 8, (insOf (sub S i 8)).right, i⟩ := by
          unfold codeS1
          rw [d1]
          simp only
          rw [if_neg hr, s1, z3, failS_ok _ _ rfl]
          simp
        have c1 : (codeP S (n + 1) ⟨i, 0, p⟩).2 = ⟨i + 8 + wholeN S n ⟨i + 8, 0, p⟩ * 8, (insOf (sub S i 8)).right, i⟩ := by
          unfold codeP
          simp only
          rw [z4, failS_bad _ _ hr]
          split <;> rfl
        rw [o1, cdF_bad _ _ _ _ hr, c1]
        exact ⟨⟨rfl, rfl, fun q => absurd q hr⟩, fun q => absurd q hr⟩
    · have t1 : takeS S 8 ⟨i, 0, p⟩ = ⟨i, 41, S.length⟩ := by unfold takeS; rw [if_pos rfl, if_neg h8]
      have t2 : takeV S 8 ⟨i, 0, p⟩ = [] := by unfold takeV; rw [if_pos rfl, if_neg h8]
      have w0 : wholeN S (n + 1) ⟨i, 0, p⟩ = 0 := by unfold wholeN; simp only; omega
      have v0 : takeV S 0 ⟨i, 0, p⟩ = [] := by
        unfold takeV RS.In at *
        simp only at hi
        rw [if_pos rfl, if_pos (by omega)]
        exact List.length_eq_zero_iff.1 (sub_length (by omega))
      have d0 : decB S (n + 1) ⟨i, 0, p⟩ = ([], 0, 0) := by unfold decB; rw [w0, Nat.zero_mul, v0, decA_nil]
      have s0 : codeS1 S (n + 1) ⟨i, 0, p⟩ = ⟨i, 0, p⟩ := by
        unfold codeS1
        rw [d0, if_pos rfl, w0]
        unfold takeS RS.In at *
        simp only at hi
        rw [if_pos rfl, if_pos (by omega)]
        simp
      have o1 : oneS S ⟨i, 0, p⟩ = ⟨i, 41, S.length⟩ := by unfold oneS; rw [t2, decA_nil, if_pos rfl, t1]
      have c1 : (codeP S (n + 1) ⟨i, 0, p⟩).2 = ⟨i, 41, S.length⟩ := by
        unfold codeP
        simp only
        rw [w0, if_pos (by omega), s0, failS_ok _ _ rfl]
      rw [o1, cdF_bad _ _ _ _ (by simp), c1]
      exact ⟨Like.refl _, fun q => by simp at q⟩
end Go.Proofs.YtdmkedpnkejpbaaDoor


/-
  Stage 3, instr: the document's rows.
-/
namespace Go.Proofs.YtdmkedpnkejpbaaDoor
open Go.RowKit

def rowCells : Array Value := (docL.map fun r => [Value.int .u8 r.1, .string (str r.2.1), .string (str r.2.2)]).flatten.toArray
set_option maxRecDepth 1000000 in
set_option maxHeartbeats 8000000 in
theorem Rows_any (w : World) :
    Calls Tryd.prog 85 #[] w fun x w' => x = .returned (.slice (some ⟨w.heap.size, 0, none⟩) 52 52) ∧ w.alloc (.cells rowCells 134) = w' := by
  go_enter Tryd.func85, Tryd.ntmps85
  go_upto_region 1 with fail
  refine wp_region_lit ?_
  refine Great.wpList_readTo rfl (some 1) rfl (.agg #[.int .u8 1, .string ⟨#[108, 105]⟩, .string ⟨#[114, 105]⟩]) (by kernel_rfl) ?_
  refine Great.wpList_readTo rfl (some 2) rfl (.agg #[.int .u8 2, .string ⟨#[109, 111, 118]⟩, .string ⟨#[114, 114]⟩]) (by kernel_rfl) ?_
  refine Great.wpList_readTo rfl (some 3) rfl (.agg #[.int .u8 3, .string ⟨#[97, 100, 100]⟩, .string ⟨#[114, 114, 114]⟩]) (by kernel_rfl) ?_
  refine Great.wpList_readTo rfl (some 4) rfl (.agg #[.int .u8 4, .string ⟨#[115, 117, 98]⟩, .string ⟨#[114, 114, 114]⟩]) (by kernel_rfl) ?_
  refine Great.wpList_readTo rfl (some 5) rfl (.agg #[.int .u8 5, .string ⟨#[109, 117, 108]⟩, .string ⟨#[114, 114, 114]⟩]) (by kernel_rfl) ?_
  refine Great.wpList_readTo rfl (some 6) rfl (.agg #[.int .u8 6, .string ⟨#[97, 110, 100]⟩, .string ⟨#[114, 114, 114]⟩]) (by kernel_rfl) ?_
  refine Great.wpList_readTo rfl (some 7) rfl (.agg #[.int .u8 7, .string ⟨#[111, 114]⟩, .string ⟨#[114, 114, 114]⟩]) (by kernel_rfl) ?_
  refine Great.wpList_readTo rfl (some 8) rfl (.agg #[.int .u8 8, .string ⟨#[120, 111, 114]⟩, .string ⟨#[114, 114, 114]⟩]) (by kernel_rfl) ?_
  refine Great.wpList_readTo rfl (some 9) rfl (.agg #[.int .u8 9, .string ⟨#[115, 104, 108]⟩, .string ⟨#[114, 114, 114]⟩]) (by kernel_rfl) ?_
  refine Great.wpList_readTo rfl (some 10) rfl (.agg #[.int .u8 10, .string ⟨#[115, 104, 114]⟩, .string ⟨#[114, 114, 114]⟩]) (by kernel_rfl) ?_
  refine Great.wpList_readTo rfl (some 11) rfl (.agg #[.int .u8 11, .string ⟨#[97, 100, 100, 105]⟩, .string ⟨#[114, 114, 105]⟩]) (by kernel_rfl) ?_
  refine Great.wpList_readTo rfl (some 12) rfl (.agg #[.int .u8 12, .string ⟨#[115, 108, 116]⟩, .string ⟨#[114, 114, 114]⟩]) (by kernel_rfl) ?_
  refine Great.wpList_readTo rfl (some 13) rfl (.agg #[.int .u8 13, .string ⟨#[115, 101, 113]⟩, .string ⟨#[114, 114, 114]⟩]) (by kernel_rfl) ?_
  refine Great.wpList_readTo rfl (some 14) rfl (.agg #[.int .u8 20, .string ⟨#[106, 109, 112]⟩, .string ⟨#[116]⟩]) (by kernel_rfl) ?_
  refine Great.wpList_readTo rfl (some 15) rfl (.agg #[.int .u8 21, .string ⟨#[98, 101, 113]⟩, .string ⟨#[114, 114, 116]⟩]) (by kernel_rfl) ?_
  refine Great.wpList_readTo rfl (some 16) rfl (.agg #[.int .u8 22, .string ⟨#[98, 110, 101]⟩, .string ⟨#[114, 114, 116]⟩]) (by kernel_rfl) ?_
  refine Great.wpList_readTo rfl (some 17) rfl (.agg #[.int .u8 23, .string ⟨#[98, 108, 116]⟩, .string ⟨#[114, 114, 116]⟩]) (by kernel_rfl) ?_
  refine Great.wpList_readTo rfl (some 18) rfl (.agg #[.int .u8 24, .string ⟨#[98, 103, 101]⟩, .string ⟨#[114, 114, 116]⟩]) (by kernel_rfl) ?_
  refine Great.wpList_readTo rfl (some 19) rfl (.agg #[.int .u8 25, .string ⟨#[99, 112, 99]⟩, .string ⟨#[114, 116]⟩]) (by kernel_rfl) ?_
  refine Great.wpList_readTo rfl (some 20) rfl (.agg #[.int .u8 26, .string ⟨#[106, 99]⟩, .string ⟨#[114]⟩]) (by kernel_rfl) ?_
  refine Great.wpList_readTo rfl (some 21) rfl (.agg #[.int .u8 27, .string ⟨#[104, 97, 108, 116]⟩, .string ⟨#[114]⟩]) (by kernel_rfl) ?_
  refine Great.wpList_readTo rfl (some 22) rfl (.agg #[.int .u8 28, .string ⟨#[116, 114, 97, 112]⟩, .string ⟨#[99]⟩]) (by kernel_rfl) ?_
  refine Great.wpList_readTo rfl (some 23) rfl (.agg #[.int .u8 29, .string ⟨#[105, 110]⟩, .string ⟨#[114]⟩]) (by kernel_rfl) ?_
  refine Great.wpList_readTo rfl (some 24) rfl (.agg #[.int .u8 30, .string ⟨#[111, 117, 116]⟩, .string ⟨#[114]⟩]) (by kernel_rfl) ?_
  refine Great.wpList_readTo rfl (some 25) rfl (.agg #[.int .u8 31, .string ⟨#[99, 97, 108, 108]⟩, .string ⟨#[103]⟩]) (by kernel_rfl) ?_
  refine Great.wpList_readTo rfl (some 26) rfl (.agg #[.int .u8 32, .string ⟨#[114, 101, 116]⟩, .string ⟨#[]⟩]) (by kernel_rfl) ?_
  refine Great.wpList_readTo rfl (some 27) rfl (.agg #[.int .u8 40, .string ⟨#[99, 105, 110, 99]⟩, .string ⟨#[114, 114, 114]⟩]) (by kernel_rfl) ?_
  refine Great.wpList_readTo rfl (some 28) rfl (.agg #[.int .u8 41, .string ⟨#[99, 105, 110, 99, 105]⟩, .string ⟨#[114, 114, 105]⟩]) (by kernel_rfl) ?_
  refine Great.wpList_readTo rfl (some 29) rfl (.agg #[.int .u8 42, .string ⟨#[99, 115, 101, 116, 98]⟩, .string ⟨#[114, 114, 114]⟩]) (by kernel_rfl) ?_
  refine Great.wpList_readTo rfl (some 30) rfl (.agg #[.int .u8 43, .string ⟨#[99, 115, 101, 116, 98, 105]⟩, .string ⟨#[114, 114, 110]⟩]) (by kernel_rfl) ?_
  refine Great.wpList_readTo rfl (some 31) rfl (.agg #[.int .u8 44, .string ⟨#[99, 97, 110, 100, 112]⟩, .string ⟨#[114, 114, 112]⟩]) (by kernel_rfl) ?_
  refine Great.wpList_readTo rfl (some 32) rfl (.agg #[.int .u8 45, .string ⟨#[99, 115, 101, 97, 108]⟩, .string ⟨#[114, 114, 114]⟩]) (by kernel_rfl) ?_
  refine Great.wpList_readTo rfl (some 33) rfl (.agg #[.int .u8 46, .string ⟨#[99, 117, 110, 115, 101, 97, 108]⟩, .string ⟨#[114, 114, 114]⟩]) (by kernel_rfl) ?_
  refine Great.wpList_readTo rfl (some 34) rfl (.agg #[.int .u8 50, .string ⟨#[99, 97, 100, 100, 114]⟩, .string ⟨#[114, 114]⟩]) (by kernel_rfl) ?_
  refine Great.wpList_readTo rfl (some 35) rfl (.agg #[.int .u8 51, .string ⟨#[99, 98, 97, 115, 101]⟩, .string ⟨#[114, 114]⟩]) (by kernel_rfl) ?_
  refine Great.wpList_readTo rfl (some 36) rfl (.agg #[.int .u8 52, .string ⟨#[99, 101, 110, 100]⟩, .string ⟨#[114, 114]⟩]) (by kernel_rfl) ?_
  refine Great.wpList_readTo rfl (some 37) rfl (.agg #[.int .u8 53, .string ⟨#[99, 112, 101, 114, 109]⟩, .string ⟨#[114, 114]⟩]) (by kernel_rfl) ?_
  refine Great.wpList_readTo rfl (some 38) rfl (.agg #[.int .u8 54, .string ⟨#[99, 115, 101, 97, 108, 101, 100]⟩, .string ⟨#[114, 114]⟩]) (by kernel_rfl) ?_
  refine Great.wpList_readTo rfl (some 39) rfl (.agg #[.int .u8 55, .string ⟨#[99, 116, 97, 103]⟩, .string ⟨#[114, 114]⟩]) (by kernel_rfl) ?_
  refine Great.wpList_readTo rfl (some 40) rfl (.agg #[.int .u8 56, .string ⟨#[99, 115, 97, 109, 101]⟩, .string ⟨#[114, 114, 114]⟩]) (by kernel_rfl) ?_
  refine Great.wpList_readTo rfl (some 41) rfl (.agg #[.int .u8 60, .string ⟨#[108, 98]⟩, .string ⟨#[114, 114, 105]⟩]) (by kernel_rfl) ?_
  refine Great.wpList_readTo rfl (some 42) rfl (.agg #[.int .u8 61, .string ⟨#[108, 119]⟩, .string ⟨#[114, 114, 105]⟩]) (by kernel_rfl) ?_
  refine Great.wpList_readTo rfl (some 43) rfl (.agg #[.int .u8 62, .string ⟨#[115, 98]⟩, .string ⟨#[114, 114, 105]⟩]) (by kernel_rfl) ?_
  refine Great.wpList_readTo rfl (some 44) rfl (.agg #[.int .u8 63, .string ⟨#[115, 119]⟩, .string ⟨#[114, 114, 105]⟩]) (by kernel_rfl) ?_
  refine Great.wpList_readTo rfl (some 45) rfl (.agg #[.int .u8 64, .string ⟨#[108, 99]⟩, .string ⟨#[114, 114, 105]⟩]) (by kernel_rfl) ?_
  refine Great.wpList_readTo rfl (some 46) rfl (.agg #[.int .u8 65, .string ⟨#[115, 99]⟩, .string ⟨#[114, 114, 105]⟩]) (by kernel_rfl) ?_
  refine Great.wpList_readTo rfl (some 47) rfl (.agg #[.int .u8 70, .string ⟨#[103, 108, 116]⟩, .string ⟨#[114, 105, 99]⟩]) (by kernel_rfl) ?_
  refine Great.wpList_readTo rfl (some 48) rfl (.agg #[.int .u8 71, .string ⟨#[103, 103, 101]⟩, .string ⟨#[114, 105, 99]⟩]) (by kernel_rfl) ?_
  refine Great.wpList_readTo rfl (some 49) rfl (.agg #[.int .u8 72, .string ⟨#[103, 116, 97, 103]⟩, .string ⟨#[114, 99]⟩]) (by kernel_rfl) ?_
  refine Great.wpList_readTo rfl (some 50) rfl (.agg #[.int .u8 73, .string ⟨#[103, 105, 110]⟩, .string ⟨#[114, 110, 99]⟩]) (by kernel_rfl) ?_
  refine Great.wpList_readTo rfl (some 51) rfl (.agg #[.int .u8 74, .string ⟨#[103, 112, 101, 114, 109]⟩, .string ⟨#[114, 112, 99]⟩]) (by kernel_rfl) ?_
  refine Great.wpList_readTo rfl (some 52) rfl (.agg #[.int .u8 75, .string ⟨#[103, 115, 101, 97, 108]⟩, .string ⟨#[114, 115, 99]⟩]) (by kernel_rfl) ?_
  refine Great.wpList_buildSliceTo rfl 135 134 52 _ rfl w.heap.size rfl (some 53) rfl (by kernel_rfl) rowCells (by kernel_rfl) ?_
  refine Great.wpList_readTo rfl (some 0) rfl (.slice (some ⟨w.heap.size, 0, none⟩) 52 52) (by kernel_rfl) ?_
  refine wpList_nil ?_
  rename_i K hK
  refine hK _ _ (wp_ret ?_)
  refine bodyPost_ret (results_tmp rfl _ _ _) (by kernel_rfl) ⟨?_, rfl⟩
  have : ∀ v, Value.slice (some ⟨w.heap.size, 0, none⟩) 52 52 = v → Ending.returned v = Ending.returned (Value.slice (some ⟨w.heap.size, 0, none⟩) 52 52) := fun v h => by rw [h]
  exact this _ (by kernel_rfl)
end Go.Proofs.YtdmkedpnkejpbaaDoor
