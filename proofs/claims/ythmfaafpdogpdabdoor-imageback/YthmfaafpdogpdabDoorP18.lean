import Derived.Test.YthmfaafpdogpdabDoorP17
import Derived.Test.YthmfaafpdogpdabDoorP11
import Derived.Test.YthmfaafpdogpdabDoorP12
import Derived.Test.YthmfaafpdogpdabDoorP08
import Derived.Test.YthmfaafpdogpdabDoorP09
/-
  Stage 4, image: bytes that are cut short. No Go in sight.
-/
namespace Go.Proofs.YthmfaafpdogpdabDoor
open Go.RowKit

/-- The bytes have ended. -/
def Cut (N : Nat) (σ : RS) : Prop := σ.e = 41 ∧ σ.p = N
theorem Cut.ne {N : Nat} {σ : RS} (h : Cut N σ) : σ.e ≠ 0 := by rw [h.1]; decide
/-- What is left alone behind an error. -/
theorem take_err {S : List UInt8} {n : Nat} {σ : RS} (h : σ.e ≠ 0) : takeS S n σ = σ := if_neg h
theorem num_err {S : List UInt8} {n : Nat} {σ : RS} (h : σ.e ≠ 0) : numV S n σ = 0 := by
  unfold numV takeV
  rw [if_neg h]
  rfl
theorem kind_err {S : List UInt8} {σ : RS} (h : σ.e ≠ 0) : (kindP S σ).2 = σ := by
  unfold kindP
  rw [if_pos (num_err h), take_err h]
theorem slot_err {S : List UInt8} {σ : RS} (h : σ.e ≠ 0) : (slotP S σ).2 = σ := by
  show takeS S 8 (kindP S σ).2 = σ
  rw [kind_err h, take_err h]
theorem root_err {S : List UInt8} {σ : RS} (h : σ.e ≠ 0) : (rootP S σ).2 = σ := by
  show capS S (takeS S 1 σ) = σ
  unfold capS
  rw [take_err h, take_err h, take_err h, take_err h, take_err h, take_err h]
theorem list_err {α : Type} {f : RS → α × RS} {σ : RS} (hf : (f σ).2 = σ) (h : σ.e ≠ 0) : ∀ (n : Nat) (L : List α), (listF f n σ L).2 = σ
  | 0, _ => rfl
  | n + 1, L => by rw [listF, hf, if_neg h]
theorem fail_err {e p : Int} {σ : RS} (h : σ.e ≠ 0) : failS e p σ = σ := if_neg h
theorem code_err {S : List UInt8} {n : Nat} {σ : RS} (h : σ.e ≠ 0) : (codeP S n σ).2 = σ := by
  have h1 : codeS1 S n σ = σ := by
    unfold codeS1
    split
    · exact take_err h
    · rw [take_err h, fail_err h]
  show (if wholeN S n σ < n then failS 41 S.length (codeS1 S n σ) else codeS1 S n σ) = σ
  rw [h1]
  split
  · exact fail_err h
  · rfl
theorem reg_err {S : List UInt8} {σ : RS} (h : σ.e ≠ 0) : (regP S σ).2 = σ := by
  have e1 : regS S σ = σ := by unfold regS; rw [take_err h, take_err h, take_err h]
  unfold regP
  split
  · rw [e1]
    exact list_err (slot_err h) h _ _
  · rw [e1]
    show takeS S (regD S σ) (takeS S 2 σ) = σ
    rw [take_err h, take_err h]
theorem roots_err {S : List UInt8} {σ : RS} (h : σ.e ≠ 0) : (rootsP S σ).2 = σ := by
  unfold rootsP
  rw [take_err h]
  exact list_err (root_err h) h _ _
theorem ins_err {S : List UInt8} {σ : RS} (h : σ.e ≠ 0) : (insP S σ).2 = σ := by
  unfold insP
  rw [take_err h]
  exact code_err h
theorem comp_err {S : List UInt8} {σ : RS} (h : σ.e ≠ 0) : (compP S σ).2 = σ := by
  show (insP S (rootsP S σ).2).2 = σ
  rw [roots_err h, ins_err h]
theorem kinds_err {S : List UInt8} {σ : RS} (h : σ.e ≠ 0) : (kindsP S σ).2 = σ := by
  unfold kindsP
  rw [take_err h]
  exact list_err (kind_err h) h _ _
theorem gate_err {S : List UInt8} {σ : RS} (h : σ.e ≠ 0) : (gateP S σ).2 = σ := by
  show (kindsP S (kindsP S (gateS S σ)).2).2 = σ
  unfold gateS
  rw [take_err h, take_err h, kinds_err h, kinds_err h]
/-- The bytes 'S', cut short. -/
structure Pre (S' S : List UInt8) : Prop where
  is : ∃ n, S' = S.take n
theorem Pre.at {S' S : List UInt8} (h : Pre S' S) {i : Nat} {B : List UInt8} (hB : AtB S i B) (hi : i + B.length ≤ S'.length) : AtB S' i B := by
  obtain ⟨n, rfl⟩ := h.is
  rw [List.length_take] at hi
  refine ⟨by rw [List.length_take]; exact hi, ?_⟩
  have e := hB.2
  unfold sub at e ⊢
  rw [List.take_take, Nat.min_eq_left (by omega)]
  exact e
theorem take_cut {S : List UInt8} {n : Nat} {σ : RS} (h0 : σ.e = 0) (h : S.length < σ.i + n) : Cut S.length (takeS S n σ) := by
  unfold takeS
  rw [if_pos h0, if_neg (by omega)]
  exact ⟨rfl, rfl⟩
/-- A number, and what comes behind it. -/
theorem seq_cut {S' S : List UInt8} (hp : Pre S' S) {σ : RS} {n : Nat} {x : Int} {C : List UInt8} {rest : RS → RS} (hr : ∀ τ, τ.e ≠ 0 → rest τ = τ) (h0 : σ.e = 0) (h : AtB S σ.i (leB n x ++ C)) (hx : 0 ≤ x ∧ x < 2 ^ (8 * n)) (hc : S'.length < σ.i + (leB n x ++ C).length)
    (k : takeS S' n σ = adv σ n → numV S' n σ = x → σ.i + n ≤ S'.length → AtB S (adv σ n).i C → S'.length < (adv σ n).i + C.length → Cut S'.length (rest (adv σ n))) : Cut S'.length (rest (takeS S' n σ)) := by
  rw [List.length_append, leB_length] at hc
  by_cases hi : σ.i + n ≤ S'.length
  · obtain ⟨a1, a2⟩ := num_at h0 (hp.at h.left (by rw [leB_length]; exact hi)) hx
    rw [a1]
    have hR := h.right
    rw [leB_length] at hR
    exact k a1 a2 hi hR (by rw [adv_i]; omega)
  · have hcut := take_cut (S := S') (n := n) h0 (by omega)
    rw [hr _ hcut.ne]
    exact hcut
theorem last_cut {S' : List UInt8} {σ : RS} {n : Nat} {x : Int} (h0 : σ.e = 0) (hc : S'.length < σ.i + (leB n x).length) : Cut S'.length (takeS S' n σ) := by
  rw [leB_length] at hc
  exact take_cut h0 hc
theorem kind_cut {S' S : List UInt8} (hp : Pre S' S) {σ : RS} {t : PTyp} (ht : t.right = true) (hr : t.Rng) (h0 : σ.e = 0) (h : AtB S σ.i (typB t)) (hc : S'.length < σ.i + (typB t).length) : Cut S'.length (kindP S' σ).2 := by
  obtain ⟨cap, b, e, lo, hi, p, s⟩ := t
  have cut1 : S'.length < σ.i + 1 → Cut S'.length (kindP S' σ).2 := fun q => by
    have hcut := take_cut (S := S') (n := 1) h0 q
    have hz : numV S' 1 σ = 0 := by
      unfold numV takeV
      rw [if_pos h0, if_neg (by omega)]
      rfl
    unfold kindP
    rw [if_pos hz]
    exact hcut
  cases cap with
  | false => exact cut1 hc
  | true =>
    by_cases q : S'.length < σ.i + 1
    · exact cut1 q
    have hs := rightB_s (b := b) (e := e) (p := p) (s := s) (by simp [PTyp.right] at ht; exact ht.1)
    have hu : u64 s = s := by unfold u64; omega
    have hB : typB ⟨true, b, e, lo, hi, p, s⟩ = leB 1 1 ++ (leB 8 b ++ (leB 8 e ++ (leB 8 lo ++ (leB 8 hi ++ (leB 1 p ++ leB 1 s))))) := by
      simp [typB, putB, hu]
    rw [hB] at h hc
    obtain ⟨a1, a2⟩ := num_at h0 (hp.at h.left (by rw [leB_length]; omega)) ⟨by omega, by decide⟩
    have hne : ¬ numV S' 1 σ = 0 := by rw [a2]; decide
    unfold kindP
    rw [if_neg hne, if_pos a2]
    show Cut S'.length (typS S' (takeS S' 1 σ))
    refine seq_cut hp (rest := typS S') (fun τ q => by unfold typS; rw [take_err q, take_err q, take_err q, take_err q, take_err q, take_err q]) h0 h ⟨by omega, by decide⟩ hc fun _ _ _ h hc => ?_
    unfold typS
    refine seq_cut hp (rest := fun τ => takeS S' 1 (takeS S' 1 (takeS S' 8 (takeS S' 8 (takeS S' 8 τ))))) (fun τ q => by simp only [take_err q]) rfl h (p8 hr.1) hc fun _ _ _ h hc => ?_
    refine seq_cut hp (rest := fun τ => takeS S' 1 (takeS S' 1 (takeS S' 8 (takeS S' 8 τ)))) (fun τ q => by simp only [take_err q]) rfl h (p8 hr.2.1) hc fun _ _ _ h hc => ?_
    refine seq_cut hp (rest := fun τ => takeS S' 1 (takeS S' 1 (takeS S' 8 τ))) (fun τ q => by simp only [take_err q]) rfl h (p8 hr.2.2.1) hc fun _ _ _ h hc => ?_
    refine seq_cut hp (rest := fun τ => takeS S' 1 (takeS S' 1 τ)) (fun τ q => by simp only [take_err q]) rfl h (p8 hr.2.2.2.1) hc fun _ _ _ h hc => ?_
    refine seq_cut hp (rest := fun τ => takeS S' 1 τ) (fun τ q => by simp only [take_err q]) rfl h (p1 hr.2.2.2.2.1) hc fun _ _ _ h hc => ?_
    exact last_cut rfl hc
theorem slot_cut {S' S : List UInt8} (hp : Pre S' S) {σ : RS} {k : PSlot} (ht : k.right = true) (hr : k.Rng) (h0 : σ.e = 0) (h : AtB S σ.i (slotB k)) (hc : S'.length < σ.i + (slotB k).length) : Cut S'.length (slotP S' σ).2 := by
  have ht2 : k.t.right = true := by simp only [PSlot.right, Bool.and_eq_true] at ht; exact ht.1.2
  have hB : slotB k = typB k.t ++ leB 8 k.c := by simp [slotB, putB]
  rw [hB] at h hc
  show Cut S'.length (takeS S' 8 (kindP S' σ).2)
  by_cases q : S'.length < σ.i + (typB k.t).length
  · have := kind_cut hp ht2 hr.1 h0 h.left q
    rw [take_err this.ne]
    exact this
  · have := kind_at ht2 hr.1 h0 (hp.at h.left (by omega))
    rw [this]
    rw [List.length_append] at hc
    exact last_cut (x := k.c) rfl (by rw [adv_i]; omega)
theorem root_cut {S' S : List UInt8} (hp : Pre S' S) {σ : RS} {k : PRoot} (ht : dataB k.b k.e k.p k.s = true) (hreg : 0 ≤ k.r ∧ k.r ≤ 15) (hr : k.Rng) (h0 : σ.e = 0) (h : AtB S σ.i (rootB k)) (hc : S'.length < σ.i + (rootB k).length) : Cut S'.length (rootP S' σ).2 := by
  obtain ⟨r, b, e, c, p, s⟩ := k
  simp only at ht hreg
  have hs := rightB_s ht
  have hu : u64 s = s := by unfold u64; omega
  have hv : u64 r = r := by unfold u64; omega
  have hB : rootB ⟨r, b, e, c, p, s⟩ = leB 1 r ++ (leB 8 b ++ (leB 8 e ++ (leB 8 c ++ (leB 1 p ++ leB 1 s)))) := by simp [rootB, putB, hu, hv]
  rw [hB] at h hc
  show Cut S'.length (capS S' (takeS S' 1 σ))
  refine seq_cut hp (rest := capS S') (fun τ q => by unfold capS; rw [take_err q, take_err q, take_err q, take_err q, take_err q]) h0 h (p1s hreg) hc fun _ _ _ h hc => ?_
  unfold capS
  refine seq_cut hp (rest := fun τ => takeS S' 1 (takeS S' 1 (takeS S' 8 (takeS S' 8 τ)))) (fun τ q => by simp only [take_err q]) rfl h (p8 hr.2.1) hc fun _ _ _ h hc => ?_
  refine seq_cut hp (rest := fun τ => takeS S' 1 (takeS S' 1 (takeS S' 8 τ))) (fun τ q => by simp only [take_err q]) rfl h (p8 hr.2.2.1) hc fun _ _ _ h hc => ?_
  refine seq_cut hp (rest := fun τ => takeS S' 1 (takeS S' 1 τ)) (fun τ q => by simp only [take_err q]) rfl h (p8 hr.2.2.2.1) hc fun _ _ _ h hc => ?_
  refine seq_cut hp (rest := fun τ => takeS S' 1 τ) (fun τ q => by simp only [take_err q]) rfl h (p1 hr.2.2.2.2.1) hc fun _ _ _ h hc => ?_
  exact last_cut rfl hc
theorem list_cut {α : Type} {S' S : List UInt8} (hp : Pre S' S) {f : RS → α × RS} {g : α → List UInt8} : ∀ (L : List α) (σ : RS) (M : List α), (∀ x ∈ L, ∀ σ : RS, σ.e = 0 → AtB S' σ.i (g x) → f σ = (x, adv σ (g x).length)) → (∀ x ∈ L, ∀ σ : RS, σ.e = 0 → AtB S σ.i (g x) → S'.length < σ.i + (g x).length → Cut S'.length (f σ).2) → σ.e = 0 → σ.i ≤ S'.length → AtB S σ.i (L.flatMap g) → S'.length < σ.i + (L.flatMap g).length → Cut S'.length (listF f L.length σ M).2
  | [], σ, M, _, _, _, hi, _, hc => by simp at hc; omega
  | x :: L, σ, M, hf, hg, h0, hi, h, hc => by
    rw [List.flatMap_cons] at h hc
    rw [List.length_cons, listF]
    by_cases q : S'.length < σ.i + (g x).length
    · have hx := hg x (by simp) σ h0 h.left q
      rw [if_neg hx.ne]
      exact hx
    · have hx := hf x (by simp) σ h0 (hp.at h.left (by omega))
      rw [hx]
      show Cut S'.length (if (adv σ (g x).length).e = 0 then listF f L.length (adv σ (g x).length) (M ++ [x]) else ([], adv σ (g x).length)).2
      rw [if_pos (adv_e _ _)]
      rw [List.length_append] at hc
      exact list_cut hp L (adv σ (g x).length) (M ++ [x]) (fun y hy => hf y (by simp [hy])) (fun y hy => hg y (by simp [hy])) rfl (by rw [adv_i]; omega) h.right (by rw [adv_i]; omega)
theorem code_cut {S' S : List UInt8} (hp : Pre S' S) {σ : RS} {L : List Ins} (hA : AllR L) (hO : OpsIn L) (h0 : σ.e = 0) (hi : σ.i ≤ S'.length) (h : AtB S σ.i (code L)) (hc : S'.length < σ.i + (code L).length) : Cut S'.length (codeP S' L.length σ).2 := by
  have hl := code_length L
  obtain ⟨q, hq⟩ : ∃ q, q = wholeN S' L.length σ := ⟨_, rfl⟩
  have hq1 : q < L.length := by rw [hq]; unfold wholeN; omega
  have hq2 : σ.i + q * 8 ≤ S'.length := by rw [hq]; unfold wholeN; omega
  have hsp : code L = code (L.take q) ++ code (L.drop q) := by rw [← code_app, List.take_append_drop]
  have hlq : (code (L.take q)).length = q * 8 := by rw [code_length, List.length_take]; omega
  rw [hsp] at h
  have hat := hp.at h.left (by rw [hlq]; exact hq2)
  obtain ⟨t1, t2⟩ := take_at h0 hat
  rw [hlq] at t1 t2
  have hd : decB S' L.length σ = (L.take q, 0, 0) := by
    unfold decB
    rw [← hq, t2, dec_all _ (fun k hk => hA k (List.mem_of_mem_take hk)) (fun k hk => hO k (List.mem_of_mem_take hk))]
  have h1 : codeS1 S' L.length σ = adv σ (q * 8) := by
    unfold codeS1
    rw [hd, if_pos rfl, ← hq, t1]
  show Cut S'.length (if wholeN S' L.length σ < L.length then failS 41 S'.length (codeS1 S' L.length σ) else codeS1 S' L.length σ)
  rw [← hq, if_pos hq1, h1]
  exact ⟨rfl, rfl⟩
theorem ins_cut {S' S : List UInt8} (hp : Pre S' S) {σ : RS} {L : List Ins} (hA : AllR L) (hO : OpsIn L) (hn : L.length ≤ 400) (h0 : σ.e = 0) (h : AtB S σ.i (codeBy L)) (hc : S'.length < σ.i + (codeBy L).length) : Cut S'.length (insP S' σ).2 := by
  have hB : codeBy L = leB 2 (L.length : Int) ++ code L := by simp [codeBy, putB, enc_all L hA]
  rw [hB] at h hc
  by_cases q : σ.i + 2 ≤ S'.length
  · obtain ⟨a1, a2⟩ := num_at h0 (hp.at h.left (by rw [leB_length]; exact q)) (two16 (by omega) (by omega))
    unfold insP
    rw [a1, a2, Int.toNat_natCast]
    have hR := h.right
    rw [leB_length] at hR
    rw [List.length_append, leB_length] at hc
    exact code_cut hp hA hO rfl (by rw [adv_i]; omega) hR (by rw [adv_i]; omega)
  · have hcut := take_cut (S := S') (n := 2) h0 (by omega)
    unfold insP
    rw [code_err hcut.ne]
    exact hcut
theorem kinds_cut {S' S : List UInt8} (hp : Pre S' S) {σ : RS} {L : List PTyp} (ht : typesR L = true) (hr : ∀ k ∈ L, k.Rng) (hn : L.length ≤ 7) (h0 : σ.e = 0) (h : AtB S σ.i (kindsB L)) (hc : S'.length < σ.i + (kindsB L).length) : Cut S'.length (kindsP S' σ).2 := by
  have hB : kindsB L = leB 1 (L.length : Int) ++ L.flatMap typB := by simp [kindsB, putB, typsB_eq]
  rw [hB] at h hc
  by_cases q : σ.i + 1 ≤ S'.length
  · obtain ⟨a1, a2⟩ := num_at h0 (hp.at h.left (by rw [leB_length]; exact q)) (two8 (by omega) (by omega))
    unfold kindsP
    rw [a1, a2, Int.toNat_natCast]
    have hR := h.right
    rw [leB_length] at hR
    rw [List.length_append, leB_length] at hc
    exact list_cut hp L (adv σ 1) [] (fun x hx τ q0 q => kind_at (typesR_all ht x hx) (hr x hx) q0 q) (fun x hx τ q0 q qc => kind_cut hp (typesR_all ht x hx) (hr x hx) q0 q qc) rfl (by rw [adv_i]; omega) hR (by rw [adv_i]; omega)
  · have hcut := take_cut (S := S') (n := 1) h0 (by omega)
    unfold kindsP
    rw [list_err (kind_err hcut.ne) hcut.ne]
    exact hcut
theorem gate_cut {S' S : List UInt8} (hp : Pre S' S) {σ : RS} {g : PGate} (hgc : 0 ≤ g.c ∧ g.c < 256) (he : 0 ≤ g.e ∧ g.e < 65536) (h1 : g.args.length ≤ 7) (h2 : g.res.length ≤ 7) (t1 : typesR g.args = true) (t2 : typesR g.res = true) (hr : g.Rng) (h0 : σ.e = 0) (h : AtB S σ.i (gateB g)) (hc : S'.length < σ.i + (gateB g).length) : Cut S'.length (gateP S' σ).2 := by
  have u1 : u64 g.c = g.c := by unfold u64; omega
  have u2 : u64 g.e = g.e := by unfold u64; omega
  have hB : gateB g = leB 1 g.c ++ (leB 2 g.e ++ (kindsB g.args ++ kindsB g.res)) := by simp [gateB, putB, u1, u2]
  rw [hB] at h hc
  show Cut S'.length (kindsP S' (kindsP S' (takeS S' 2 (takeS S' 1 σ))).2).2
  refine seq_cut hp (rest := fun τ => (kindsP S' (kindsP S' (takeS S' 2 τ)).2).2) (fun τ q => by simp only [take_err q, kinds_err q]) h0 h (two8 hgc.1 hgc.2) hc fun _ _ _ h hc => ?_
  refine seq_cut hp (rest := fun τ => (kindsP S' (kindsP S' τ).2).2) (fun τ q => by simp only [kinds_err q]) rfl h (two16 he.1 he.2) hc fun _ _ _ h hc => ?_
  by_cases q : S'.length < (adv (adv σ 1) 2).i + (kindsB g.args).length
  · have := kinds_cut hp t1 hr.2.2.2.2.1 h1 rfl h.left q
    rw [kinds_err this.ne]
    exact this
  · rw [kinds_at t1 hr.2.2.2.2.1 h1 rfl (hp.at h.left (by omega))]
    rw [List.length_append] at hc
    refine kinds_cut hp t2 hr.2.2.2.2.2 h2 rfl h.right ?_
    show _ < (adv (adv σ 1) 2).i + (kindsB g.args).length + _
    omega
theorem comp_cut {S' S : List UInt8} (hp : Pre S' S) {σ : RS} {c : PComp} (t1 : rootsR c.roots 7 = true) (hA : AllR c.code) (hn : c.code.length ≤ 400) (hr : c.Rng) (h0 : σ.e = 0) (h : AtB S σ.i (compB c)) (hc : S'.length < σ.i + (compB c).length) : Cut S'.length (compP S' σ).2 := by
  obtain ⟨q1, q2⟩ := rootsR_all t1 (by omega)
  have hl : c.roots.length ≤ 8 := by
    rcases q2 with q | q
    · rw [q]; simp
    · omega
  have hB : compB c = leB 1 (c.roots.length : Int) ++ (c.roots.flatMap rootB ++ codeBy c.code) := by simp [compB, putB, rootsB_eq]
  rw [hB] at h hc
  show Cut S'.length (insP S' (rootsP S' σ).2).2
  by_cases q : σ.i + 1 ≤ S'.length
  · obtain ⟨a1, a2⟩ := num_at h0 (hp.at h.left (by rw [leB_length]; exact q)) (two8 (by omega) (by omega))
    have hR := h.right
    rw [leB_length] at hR
    rw [List.length_append, leB_length, List.length_append] at hc
    by_cases q' : S'.length < (adv σ 1).i + (c.roots.flatMap rootB).length
    · have hcut : Cut S'.length (rootsP S' σ).2 := by
        unfold rootsP
        rw [a1, a2, Int.toNat_natCast]
        exact list_cut hp c.roots (adv σ 1) [] (fun x hx τ q0 q => root_at (q1 x hx).1 (q1 x hx).2 (hr.2.2.2 x hx) q0 q) (fun x hx τ q0 q qc => root_cut hp (q1 x hx).1 (q1 x hx).2 (hr.2.2.2 x hx) q0 q qc) rfl (by rw [adv_i]; omega) hR.left q'
      rw [ins_err hcut.ne]
      exact hcut
    · have hro : rootsP S' σ = (c.roots, adv (adv σ 1) (c.roots.flatMap rootB).length) := by
        unfold rootsP
        rw [a1, a2, Int.toNat_natCast]
        exact list_at0 c.roots (adv σ 1) (fun x hx τ q0 q => root_at (q1 x hx).1 (q1 x hx).2 (hr.2.2.2 x hx) q0 q) rfl (hp.at hR.left (by rw [adv_i] at *; omega))
      rw [hro]
      refine ins_cut hp hA hr.2.2.1 hn rfl hR.right ?_
      show _ < σ.i + 1 + (c.roots.flatMap rootB).length + _
      omega
  · have hcut := take_cut (S := S') (n := 1) h0 (by omega)
    have hro : (rootsP S' σ).2 = takeS S' 1 σ := by unfold rootsP; exact list_err (root_err hcut.ne) hcut.ne _ _
    rw [hro, ins_err hcut.ne]
    exact hcut
theorem reg_cut {S' S : List UInt8} (hp : Pre S' S) {σ : RS} {r : PReg} (hb : 0 ≤ r.b ∧ r.b < 65536) (hn : 0 ≤ r.n ∧ r.n ≤ 65536) (hct : contentB r.n r.data r.slots.length = true) (hs : slotsR r.slots = true) (hl : r.data.length ≤ 40000) (hr : r.Rng) (h0 : σ.e = 0) (h : AtB S σ.i (regB r)) (hc : S'.length < σ.i + (regB r).length) : Cut S'.length (regP S' σ).2 := by
  obtain ⟨b, n, D, L⟩ := r
  simp only at hb hn hct hs hl
  obtain ⟨kn, hkn⟩ : ∃ kn : Int, kn = (L.length : Int) := ⟨_, rfl⟩
  obtain ⟨R, hR⟩ : ∃ R, R = (if L.length = 0 then leB 2 (D.length : Int) ++ D else L.flatMap slotB) := ⟨_, rfl⟩
  have hD : L.length ≠ 0 → D = [] ∧ n = 16 * (L.length : Int) := fun hk => by
    unfold contentB at hct
    rw [if_pos (by omega), Bool.and_eq_true] at hct
    exact ⟨by simpa using hct.1, by simpa using hct.2⟩
  have hk16 : 0 ≤ kn ∧ kn < 65536 := by
    by_cases hk : L.length = 0
    · omega
    · have := (hD hk).2; omega
  have hB : regB ⟨b, n, D, L⟩ = leB 4 b ++ (leB 4 n ++ (leB 2 kn ++ R)) := by
    rw [hR, hkn]
    by_cases hk : L.length = 0
    · obtain rfl : L = [] := by cases L with | nil => rfl | cons _ _ => simp at hk
      simp [regB, dataBy, putB, slotsB]
    · obtain ⟨rfl, _⟩ := hD hk
      rw [if_neg hk]
      unfold regB dataBy
      simp only
      rw [if_neg hk]
      simp [putB, slotsB_eq]
  rw [hB] at h hc
  -- the state behind, as one word
  have key : ∀ τ : RS, τ = takeS S' 2 (takeS S' 4 (takeS S' 4 σ)) → τ.e ≠ 0 → (regP S' σ).2 = τ := fun τ e hne => by
    have e1 : regS S' σ = τ := by rw [e]; rfl
    unfold regP
    split
    · rw [e1]; exact list_err (slot_err hne) hne _ _
    · rw [e1]
      show takeS S' (regD S' σ) (takeS S' 2 τ) = τ
      rw [take_err hne, take_err hne]
  by_cases q : Cut S'.length (takeS S' 2 (takeS S' 4 (takeS S' 4 σ)))
  · rw [key _ rfl q.ne]
    exact q
  · have good : σ.i + 4 + 4 + 2 ≤ S'.length := by
      rcases Decidable.em (σ.i + 4 + 4 + 2 ≤ S'.length) with g | g
      · exact g
      · exfalso
        apply q
        by_cases g1 : σ.i + 4 ≤ S'.length
        · obtain ⟨a1, _⟩ := num_at h0 (hp.at h.left (by rw [leB_length]; exact g1)) (two32 hb.1 (by omega))
          have h2 := h.right
          rw [leB_length] at h2
          rw [a1]
          by_cases g2 : σ.i + 4 + 4 ≤ S'.length
          · obtain ⟨b1, _⟩ := num_at (σ := adv σ 4) rfl (hp.at h2.left (by rw [leB_length, adv_i]; exact g2)) (two32 hn.1 (by omega))
            rw [b1]
            exact take_cut rfl (by rw [adv_i, adv_i]; omega)
          · have hcut := take_cut (S := S') (n := 4) (σ := adv σ 4) rfl (by rw [adv_i]; omega)
            rw [take_err hcut.ne]
            exact hcut
        · have hcut := take_cut (S := S') (n := 4) h0 (by omega)
          rw [take_err hcut.ne, take_err hcut.ne]
          exact hcut
    obtain ⟨a1, a2⟩ := num_at h0 (hp.at h.left (by rw [leB_length]; omega)) (two32 hb.1 (by omega))
    have h2 := h.right
    rw [leB_length] at h2
    obtain ⟨b1, b2⟩ := num_at (σ := adv σ 4) rfl (hp.at h2.left (by rw [leB_length, adv_i]; omega)) (two32 hn.1 (by omega))
    have h3 := h2.right
    rw [leB_length] at h3
    obtain ⟨c1, c2⟩ := num_at (σ := adv (adv σ 4) 4) rfl (hp.at h3.left (by rw [leB_length, adv_i, adv_i]; omega)) (two16 hk16.1 hk16.2)
    have h4 := h3.right
    rw [leB_length] at h4
    have eS : regS S' σ = adv (adv (adv σ 4) 4) 2 := by unfold regS; rw [a1, b1, c1]
    have eK : regK S' σ = L.length := by unfold regK; rw [a1, b1, c2, hkn, Int.toNat_natCast]
    have hc4 : S'.length < (adv (adv (adv σ 4) 4) 2).i + R.length := by
      rw [List.length_append, List.length_append, List.length_append, leB_length, leB_length, leB_length] at hc
      rw [adv_i, adv_i, adv_i]
      omega
    have h4' : AtB S (adv (adv (adv σ 4) 4) 2).i R := h4
    have hin : (adv (adv (adv σ 4) 4) 2).i ≤ S'.length := by rw [adv_i, adv_i, adv_i]; omega
    unfold regP
    rw [eK, eS]
    have hτ : (adv (adv (adv σ 4) 4) 2).e = 0 := rfl
    generalize adv (adv (adv σ 4) 4) 2 = τ at *
    by_cases hk : L.length = 0
    · rw [if_neg (by omega)]
      rw [hR, if_pos hk] at h4' hc4
      show Cut S'.length (takeS S' (regD S' σ) (takeS S' 2 τ))
      have eD : regD S' σ = (numV S' 2 τ).toNat := by unfold regD; rw [eS]
      refine seq_cut hp (rest := fun υ => takeS S' (regD S' σ) υ) (fun υ q => by simp only [take_err q]) hτ h4' (two16 (by omega) (by omega)) hc4 fun _ v _ h hc => ?_
      rw [eD, v, Int.toNat_natCast]
      exact take_cut rfl hc
    · rw [if_pos (by omega)]
      rw [hR, if_neg hk] at h4' hc4
      exact list_cut hp L τ [] (fun x hx υ q0 q => slot_at (slotsR_all hs x hx) (hr.2.2.2.2 x hx) q0 q) (fun x hx υ q0 q qc => slot_cut hp (slotsR_all hs x hx) (hr.2.2.2.2 x hx) q0 q qc) hτ hin h4' hc4
theorem imgP_cut {m : PImg} (h : m.right = 0) (hR : m.Rng) (hl : (imgB m).length ≤ 40000) : Cut ((imgB m).length - 1) (imgP ((imgB m).take ((imgB m).length - 1))).2 := by
  have hp := rightParts h
  have hB := imgB_body h
  have hlen : (imgB m).length = 6 + 1 + 1 + 1 + 1 + (m.regs.flatMap regB).length + (m.comps.flatMap compB).length + (m.gates.flatMap gateB).length := by
    rw [hB]; unfold bodyB; simp [leB_length, magicB]; omega
  generalize hS : imgB m = S at *
  have hat : AtB S magicB.length (bodyB m) := by
    have := atB_mid magicB (bodyB m) []
    rw [List.append_nil] at this
    rw [hB]
    exact this
  generalize hS' : S.take (S.length - 1) = S'
  have hpre : Pre S' S := ⟨⟨_, hS'.symm⟩⟩
  have hN : S'.length = S.length - 1 := by rw [← hS', List.length_take]; omega
  have hmag : magicB <+: S' := by
    rw [← hS', hB, List.take_append, List.take_of_length_le (by rw [← hB, hlen]; simp [magicB]; omega)]
    exact ⟨_, rfl⟩
  rw [← hN]
  have hc : S'.length < h0S.i + (bodyB m).length := by
    have : S.length = 6 + (bodyB m).length := by rw [hB, List.length_append]; rfl
    show _ < 6 + _
    omega
  have q : AtB S h0S.i (bodyB m) := hat
  unfold bodyB at q hc
  have hrest : ∀ τ : RS, τ.e ≠ 0 → restS S' τ = τ := fun τ q => by
    unfold restS
    split
    · exact fail_err q
    · rfl
  have hrl := fun n τ (q : RS.e τ ≠ 0) => list_err (f := regP S') (reg_err q) q n []
  have hcl := fun n τ (q : RS.e τ ≠ 0) => list_err (f := compP S') (comp_err q) q n []
  have hgl := fun n τ (q : RS.e τ ≠ 0) => list_err (f := gateP S') (gate_err q) q n []
  have eimg : (imgP S').2 = restS S' (gatesP S').2 := by unfold imgP; rw [if_pos hmag]
  rw [eimg]
  have main : Cut S'.length (gatesP S').2 := by
    show Cut S'.length (listF (gateP S') (numV S' 1 (h3S S')).toNat (listF (compP S') (numV S' 1 (h2S S')).toNat (listF (regP S') (numV S' 1 (h1S S')).toNat (h4S S') []).2 []).2 []).2
    have back : ∀ τ : RS, τ.e ≠ 0 → (listF (gateP S') (numV S' 1 (h3S S')).toNat (listF (compP S') (numV S' 1 (h2S S')).toNat (listF (regP S') (numV S' 1 (h1S S')).toNat τ []).2 []).2 []).2 = τ := fun τ q => by
      rw [hrl _ τ q, hcl _ τ q, hgl _ τ q]
    show Cut S'.length ((fun τ => (listF (gateP S') (numV S' 1 (h3S S')).toNat (listF (compP S') (numV S' 1 (h2S S')).toNat (listF (regP S') (numV S' 1 (h1S S')).toNat τ []).2 []).2 []).2) (takeS S' 1 (takeS S' 1 (takeS S' 1 (takeS S' 1 h0S)))))
    refine seq_cut hpre (rest := fun τ => (listF (gateP S') (numV S' 1 (h3S S')).toNat (listF (compP S') (numV S' 1 (h2S S')).toNat (listF (regP S') (numV S' 1 (h1S S')).toNat (takeS S' 1 (takeS S' 1 (takeS S' 1 τ))) []).2 []).2 []).2) (fun τ q => by simp only [take_err q]; exact back τ q) rfl q (two8 (by have := hp.d; omega) (by have := hp.d; omega)) hc fun e1 _ _ q hc => ?_
    refine seq_cut hpre (rest := fun τ => (listF (gateP S') (numV S' 1 (h3S S')).toNat (listF (compP S') (numV S' 1 (h2S S')).toNat (listF (regP S') (numV S' 1 (h1S S')).toNat (takeS S' 1 (takeS S' 1 τ)) []).2 []).2 []).2) (fun τ q => by simp only [take_err q]; exact back τ q) rfl q (two8 (by omega) (by have := hp.n1; omega)) hc fun e2 v2 _ q hc => ?_
    refine seq_cut hpre (rest := fun τ => (listF (gateP S') (numV S' 1 (h3S S')).toNat (listF (compP S') (numV S' 1 (h2S S')).toNat (listF (regP S') (numV S' 1 (h1S S')).toNat (takeS S' 1 τ) []).2 []).2 []).2) (fun τ q => by simp only [take_err q]; exact back τ q) rfl q (two8 (by omega) (by have := hp.n2; omega)) hc fun e3 v3 _ q hc => ?_
    refine seq_cut hpre (rest := fun τ => (listF (gateP S') (numV S' 1 (h3S S')).toNat (listF (compP S') (numV S' 1 (h2S S')).toNat (listF (regP S') (numV S' 1 (h1S S')).toNat τ []).2 []).2 []).2) (fun τ q => back τ q) rfl q (two8 (by omega) (by have := hp.n3; omega)) hc fun e4 v4 hin q hc => ?_
    have k1 : h1S S' = adv h0S 1 := e1
    have k2 : h2S S' = adv (adv h0S 1) 1 := by unfold h2S; rw [k1, e2]
    have k3 : h3S S' = adv (adv (adv h0S 1) 1) 1 := by unfold h3S; rw [k2, e3]
    rw [k1, k2, k3, v2, v3, v4, Int.toNat_natCast, Int.toNat_natCast, Int.toNat_natCast]
    generalize hτ : adv (adv (adv (adv h0S 1) 1) 1) 1 = τ at *
    have hτ0 : τ.e = 0 := by rw [← hτ]; rfl
    have hτi : τ.i ≤ S'.length := by rw [← hτ]; exact hin
    have hlS : (imgB m).length ≤ 40000 := by rw [hS]; exact hl
    have regAt : ∀ x ∈ m.regs, ∀ σ : RS, σ.e = 0 → AtB S σ.i (regB x) → S'.length < σ.i + (regB x).length → Cut S'.length (regP S' σ).2 := fun x hx σ h0 q qc => by
      have hxr := hR.regs.2 x hx
      obtain ⟨a, b, c, d, _⟩ := regsR_all hp.regs (by omega) x hx
      have hn := hxr.2.1
      unfold W64 at hn
      refine reg_cut hpre ⟨by omega, a.2⟩ ⟨by omega, by omega⟩ c d ?_ hxr h0 q qc
      have h1 := mem_len (g := regB) hx
      by_cases hk : x.slots.length = 0
      · have h3 : x.data.length ≤ (regB x).length := by unfold regB dataBy; rw [if_pos hk]; simp; omega
        omega
      · unfold contentB at c
        rw [if_pos (by omega), Bool.and_eq_true] at c
        have : x.data = [] := by simpa using c.1
        rw [this]
        simp
    have compAt : ∀ x ∈ m.comps, ∀ σ : RS, σ.e = 0 → AtB S σ.i (compB x) → S'.length < σ.i + (compB x).length → Cut S'.length (compP S' σ).2 := fun x hx σ h0 q qc => by
      obtain ⟨a, b, c⟩ := compsR_all hp.comps x hx
      exact comp_cut hpre a b c (hR.comps.2 x hx) h0 q qc
    have gateAt : ∀ x ∈ m.gates, ∀ σ : RS, σ.e = 0 → AtB S σ.i (gateB x) → S'.length < σ.i + (gateB x).length → Cut S'.length (gateP S' σ).2 := fun x hx σ h0 q qc => by
      obtain ⟨a, b, c, d, e⟩ := gatesR_all hp.gates x hx
      obtain ⟨q1, q2⟩ := hasI_in a hp.n2 (fun k hk => (compsR_all hp.comps k hk).2.2)
      exact gate_cut hpre q1 q2 b c d e (hR.gates.2 x hx) h0 q qc
    by_cases g1 : S'.length < τ.i + (m.regs.flatMap regB).length
    · have := list_cut hpre m.regs τ [] (reg_in h hR hlS) regAt hτ0 hτi q.left g1
      rw [hcl _ _ this.ne, hgl _ _ this.ne]
      exact this
    · rw [list_at0 m.regs τ (reg_in h hR hlS) hτ0 (hpre.at q.left (by omega))]
      have q2 := q.right
      rw [List.length_append] at hc
      by_cases g2 : S'.length < (adv τ (m.regs.flatMap regB).length).i + (m.comps.flatMap compB).length
      · have := list_cut hpre m.comps (adv τ (m.regs.flatMap regB).length) [] (comp_in h hR) compAt rfl (by rw [adv_i]; omega) q2.left g2
        rw [hgl _ _ this.ne]
        exact this
      · rw [list_at0 m.comps (adv τ (m.regs.flatMap regB).length) (comp_in h hR) rfl (hpre.at q2.left (by simp only [adv_i] at g2 ⊢; omega))]
        rw [List.length_append] at hc
        refine list_cut hpre m.gates _ [] (gate_in h hR) gateAt rfl (by simp only [adv_i] at g2 ⊢; omega) q2.right ?_
        rw [adv_i, adv_i]
        omega
  rw [hrest _ main.ne]
  exact main
theorem decI_cut {m : PImg} (h : m.right = 0) (hR : m.Rng) (hl : (imgB m).length ≤ 40000) : decI ((imgB m).take ((imgB m).length - 1)) = (zImg, (41 : Int), (((imgB m).length - 1 : Nat) : Int)) := by
  have hc := imgP_cut h hR hl
  unfold decI
  rw [if_neg (by rw [List.length_take]; omega), if_neg hc.ne, hc.1, hc.2]
end Go.Proofs.YthmfaafpdogpdabDoor


/-
  Stage 4, image: two programs, compared, as the document has it.
-/
namespace Go.Proofs.YthmfaafpdogpdabDoor
open Go.RowKit

def eqL {α : Type} (f : α → α → Bool) : List α → List α → Bool
  | [], [] => true
  | a :: l, b :: m => f a b && eqL f l m
  | [], _ :: _ => false
  | _ :: _, [] => false
theorem eqL_iff {α : Type} {f : α → α → Bool} (hf : ∀ a b, f a b = true ↔ a = b) : ∀ L M : List α, eqL f L M = true ↔ L = M
  | [], [] => by simp [eqL]
  | [], _ :: _ => by simp [eqL]
  | _ :: _, [] => by simp [eqL]
  | a :: l, b :: m => by simp [eqL, hf, eqL_iff hf l m]
def PTyp.eqB (a b : PTyp) : Bool := (a.cap == b.cap) && decide (a.b = b.b) && decide (a.e = b.e) && decide (a.lo = b.lo) && decide (a.hi = b.hi) && decide (a.p = b.p) && decide (a.s = b.s)
def PSlot.eqB (a b : PSlot) : Bool := a.t.eqB b.t && decide (a.c = b.c)
def PRoot.eqB (a b : PRoot) : Bool := decide (a.r = b.r) && decide (a.b = b.b) && decide (a.e = b.e) && decide (a.c = b.c) && decide (a.p = b.p) && decide (a.s = b.s)
theorem PTyp.eqB_iff (a b : PTyp) : a.eqB b = true ↔ a = b := by
  cases a; cases b; simp [PTyp.eqB, and_assoc]
theorem PSlot.eqB_iff (a b : PSlot) : a.eqB b = true ↔ a = b := by
  cases a; cases b; simp [PSlot.eqB, PTyp.eqB_iff]
theorem PRoot.eqB_iff (a b : PRoot) : a.eqB b = true ↔ a = b := by
  cases a; cases b; simp [PRoot.eqB, and_assoc]
def PReg.eqB (a b : PReg) : Bool := decide (a.b = b.b) && decide (a.n = b.n) && decide (a.data = b.data) && eqL PSlot.eqB a.slots b.slots
def PComp.eqB (a b : PComp) : Bool := eqL PRoot.eqB a.roots b.roots && eqL Ins.eqB a.code b.code
def PGate.eqB (a b : PGate) : Bool := decide (a.c = b.c) && decide (a.e = b.e) && eqL PTyp.eqB a.args b.args && eqL PTyp.eqB a.res b.res
theorem PReg.eqB_iff (a b : PReg) : a.eqB b = true ↔ a = b := by
  cases a; cases b; simp [PReg.eqB, eqL_iff PSlot.eqB_iff, and_assoc]
theorem PComp.eqB_iff (a b : PComp) : a.eqB b = true ↔ a = b := by
  cases a; cases b; simp [PComp.eqB, eqL_iff PRoot.eqB_iff, eqL_iff Ins.eqB_iff]
theorem PGate.eqB_iff (a b : PGate) : a.eqB b = true ↔ a = b := by
  cases a; cases b; simp [PGate.eqB, eqL_iff PTyp.eqB_iff, and_assoc]
def PImg.eqB (a b : PImg) : Bool := eqL PReg.eqB a.regs b.regs && eqL PComp.eqB a.comps b.comps && eqL PGate.eqB a.gates b.gates && decide (a.depth = b.depth)
theorem PImg.eqB_iff (a b : PImg) : a.eqB b = true ↔ a = b := by
  cases a; cases b; simp [PImg.eqB, eqL_iff PReg.eqB_iff, eqL_iff PComp.eqB_iff, eqL_iff PGate.eqB_iff, and_assoc]
theorem eqb_yes {α : Type} {f : α → α → Bool} (hf : ∀ a b, f a b = true ↔ a = b) {a b : α} (h : a = b) : Ending.returned (.bool true) = .returned (.bool (f a b)) := by rw [(hf a b).2 h]
theorem eqb_no {α : Type} {f : α → α → Bool} (hf : ∀ a b, f a b = true ↔ a = b) {a b : α} (h : a ≠ b) : Ending.returned (.bool false) = .returned (.bool (f a b)) := by
  cases e : f a b with
  | false => rfl
  | true => exact absurd ((hf a b).1 e) h
theorem ins_cells {w : World} {b o : Nat} {k : Ins} (h : Five w b o k) : w.cell? ⟨b, o, none⟩ = some (.int .u8 k.op) ∧ w.cell? ⟨b, o + 1, none⟩ = some (.int .i64 k.a) ∧ w.cell? ⟨b, o + 1 + 1, none⟩ = some (.int .i64 k.b) ∧ w.cell? ⟨b, o + 1 + 1 + 1, none⟩ = some (.int .i64 k.c) ∧ w.cell? ⟨b, o + 1 + 1 + 1 + 1, none⟩ = some (.int .i64 k.m) := h
theorem lin_at {B : Nat} {w : World} {a : Option Addr} {L : List Ins} (h : LIn B w a L) (i : Nat) (hi : i < L.length) : ∃ b off : Nat, a = some ⟨b, off, none⟩ ∧ b < B ∧ b < w.heap.size ∧ Five w b (off + i * 5) L[i] := h i hi
set_option maxRecDepth 10000 in
set_option maxHeartbeats 4000000 in
theorem sameTypes_any (L M : List PTyp) (cl cm : Nat) (al am : Option Addr) (w : World) (hL : FIn 7 PTyp.vals w.heap.size w al L) (hM : FIn 7 PTyp.vals w.heap.size w am M) (hl : L.length ≤ maxG) :
    Calls Tryd.prog 34 #[.slice al L.length cl, .slice am M.length cm] w fun x w' => x = .returned (.bool (eqL PTyp.eqB L M)) ∧ Gr w w' := by
  have hl1 : (L.length : Int) ≤ 140737488355328 := by unfold maxG at hl; omega
  replace hL := Hid.mk hL
  replace hM := Hid.mk hM
  by_cases hlen : L.length = M.length
  · have g : ((L.length : Int) != M.length) = false := by simp; omega
    go_enter Tryd.func34, Tryd.ntmps34
    go_wp2_with fail
    replace hlen := Hid.mk hlen
    go_loopw [5] (fun i wr => ∃ j : Nat, i = .int .i64 j ∧ j ≤ L.length ∧ Hid (L.take j = M.take j ∧ Gr w wr)) (fun i _ => L.length - (intOf i).toNat)
    case atStart => exact ⟨0, rfl, by have := hlen.out; omega, ⟨rfl, Gr.refl _⟩⟩
    case round =>
      obtain ⟨j, rfl, hj, ⟨hf, hG⟩⟩ := hrel
      by_cases hlt : j < L.length
      · have jl : (j : Int) < L.length := by have := hlen.out; omega
        have jm : (j : Int) < M.length := by have := hlen.out; omega
        have hltm : j < M.length := by have := hlen.out; omega
        obtain ⟨b, off, rfl, hb, hb2, cc⟩ := (hL.out.below (hG.below.mono (Nat.le_refl _))) j hlt
        obtain ⟨b', off', rfl, hb', hb2', dd⟩ := (hM.out.below (hG.below.mono (Nat.le_refl _))) j hltm
        obtain ⟨c0, c1, c2, c3, c4, c5, c6⟩ := typ_cells cc
        obtain ⟨d0, d1, d2, d3, d4, d5, d6⟩ := typ_cells dd
        clear cc dd
        have hnx : L[j] = M[j] → L.take (j + 1) = M.take (j + 1) := fun h => by
          rw [List.take_succ_eq_append_getElem hlt, List.take_succ_eq_append_getElem hltm, hf, h]
        have hne : L[j] ≠ M[j] → L ≠ M := fun h e => h (by simp only [e])
        generalize L[j] = k at *
        generalize M[j] = m at *
        replace hf := Hid.mk hf
        replace hG := Hid.mk hG
        by_cases hkm : k = m
        · subst hkm
          replace hnx := Hid.mk (hnx rfl)
          clear hne
          go_wp2_with fail
          go_quiet (fail)
          go_wp2_with fail
          go_roundw
          case rel => exact ⟨j + 1, by simp, by have := hlen.out; omega, ⟨hnx.out, hG.out.drewN _⟩⟩
          case measure => simp [intOf]; omega
        · replace hne := Hid.mk (hne hkm)
          clear hnx
          have hkm2 : ¬ (k.cap = m.cap ∧ k.b = m.b ∧ k.e = m.e ∧ k.lo = m.lo ∧ k.hi = m.hi ∧ k.p = m.p ∧ k.s = m.s) := fun h => hkm (by
            cases k; cases m; simp only [PTyp.mk.injEq]; exact h)
          clear hkm
          by_cases q0 : k.cap = m.cap
          · skip
            by_cases q1 : k.b = m.b
            · skip
              by_cases q2 : k.e = m.e
              · skip
                by_cases q3 : k.lo = m.lo
                · skip
                  by_cases q4 : k.hi = m.hi
                  · skip
                    by_cases q5 : k.p = m.p
                    · skip
                      have q6 : ¬ k.s = m.s := fun h => hkm2 ⟨q0, q1, q2, q3, q4, q5, h⟩
                      clear hkm2
                      go_wp2_with fail
                      go_quiet (fail)
                      go_wp2_with fail
                      go_ret
                      exact ⟨eqb_no (eqL_iff PTyp.eqB_iff) hne.out, hG.out.drewN _⟩
                    · clear hkm2
                      go_wp2_with fail
                      go_quiet (fail)
                      go_wp2_with fail
                      go_ret
                      exact ⟨eqb_no (eqL_iff PTyp.eqB_iff) hne.out, hG.out.drewN _⟩
                  · clear hkm2
                    go_wp2_with fail
                    go_quiet (fail)
                    go_wp2_with fail
                    go_ret
                    exact ⟨eqb_no (eqL_iff PTyp.eqB_iff) hne.out, hG.out.drewN _⟩
                · clear hkm2
                  go_wp2_with fail
                  go_quiet (fail)
                  go_wp2_with fail
                  go_ret
                  exact ⟨eqb_no (eqL_iff PTyp.eqB_iff) hne.out, hG.out.drewN _⟩
              · clear hkm2
                go_wp2_with fail
                go_quiet (fail)
                go_wp2_with fail
                go_ret
                exact ⟨eqb_no (eqL_iff PTyp.eqB_iff) hne.out, hG.out.drewN _⟩
            · clear hkm2
              go_wp2_with fail
              go_quiet (fail)
              go_wp2_with fail
              go_ret
              exact ⟨eqb_no (eqL_iff PTyp.eqB_iff) hne.out, hG.out.drewN _⟩
          · clear hkm2
            go_wp2_with fail
            go_quiet (fail)
            go_wp2_with fail
            go_ret
            exact ⟨eqb_no (eqL_iff PTyp.eqB_iff) hne.out, hG.out.drewN _⟩
      · have jl : ¬ (j : Int) < L.length := by have := hlen.out; omega
        have e : L = M := by
          rw [List.take_of_length_le (by have := hlen.out; omega), List.take_of_length_le (by have := hlen.out; omega)] at hf
          exact hf
        replace e := Hid.mk e
        clear hf hlt hj
        replace hG := Hid.mk hG
        go_wp2_with fail
        go_ret
        exact ⟨eqb_yes (eqL_iff PTyp.eqB_iff) e.out, hG.out⟩
  · have g : ((L.length : Int) != M.length) = true := by simp; omega
    have e : L ≠ M := fun e => hlen (by rw [e])
    replace hlen := Hid.mk hlen
    replace e := Hid.mk e
    go_enter Tryd.func34, Tryd.ntmps34
    go_wp2_with fail
    go_ret
    exact ⟨eqb_no (eqL_iff PTyp.eqB_iff) e.out, Gr.refl w⟩
set_option maxRecDepth 10000 in
set_option maxHeartbeats 4000000 in
theorem sameRegion_any (x y : PReg) (cl cm : Nat) (al am : Option Addr) (w : World) (hL : FIn 8 PSlot.vals w.heap.size w al x.slots) (hM : FIn 8 PSlot.vals w.heap.size w am y.slots) (hl : x.slots.length ≤ maxG) :
    Calls Tryd.prog 32 #[.agg #[.int .u64 x.b, .int .u64 x.n, .string (str x.data), .slice al x.slots.length cl], .agg #[.int .u64 y.b, .int .u64 y.n, .string (str y.data), .slice am y.slots.length cm]] w fun r w' => r = .returned (.bool (x.eqB y)) ∧ Gr w w' := by
  obtain ⟨b1, n1, d1, L⟩ := x
  obtain ⟨b2, n2, d2, M⟩ := y
  simp only at *
  have hl1 : (L.length : Int) ≤ 140737488355328 := by unfold maxG at hl; omega
  replace hL := Hid.mk hL
  replace hM := Hid.mk hM
  by_cases h : b1 = b2 ∧ n1 = n2 ∧ d1 = d2
  · obtain ⟨rfl, rfl, rfl⟩ := h
    by_cases hlen : L.length = M.length
    · have g : ((L.length : Int) != M.length) = false := by simp; omega
      replace hlen := Hid.mk hlen
      have hGR : Gr w ((w.alloc (.cells #[.int .u64 b1, .int .u64 n1, .string (str d1), .slice al L.length cl] 58)).alloc (.cells #[.int .u64 b1, .int .u64 n1, .string (str d1), .slice am M.length cm] 58)) := ((Gr.refl w).alloc _).alloc _
      have BA : Box ((w.alloc (.cells #[.int .u64 b1, .int .u64 n1, .string (str d1), .slice al L.length cl] 58)).alloc (.cells #[.int .u64 b1, .int .u64 n1, .string (str d1), .slice am M.length cm] 58)) w.heap.size #[.int .u64 b1, .int .u64 n1, .string (str d1), .slice al L.length cl] 58 := (Box.new w _ _).alloc _
      have BB : Box ((w.alloc (.cells #[.int .u64 b1, .int .u64 n1, .string (str d1), .slice al L.length cl] 58)).alloc (.cells #[.int .u64 b1, .int .u64 n1, .string (str d1), .slice am M.length cm] 58)) (w.heap.size + 1) #[.int .u64 b1, .int .u64 n1, .string (str d1), .slice am M.length cm] 58 := Box.next _ _ _ _
      replace hGR := Hid.mk hGR
      replace BA := Hid.mk BA
      replace BB := Hid.mk BB
      go_enter Tryd.func32, Tryd.ntmps32
      go_wp2_with fail
      generalize (w.alloc (.cells #[.int .u64 b1, .int .u64 n1, .string (str d1), .slice al L.length cl] 58)).alloc (.cells #[.int .u64 b1, .int .u64 n1, .string (str d1), .slice am M.length cm] 58) = R0 at *
      replace hL := Hid.mk ((hL.out.below hGR.out.below).mono (gr_size hGR.out))
      replace hM := Hid.mk ((hM.out.below hGR.out.below).mono (gr_size hGR.out))
      go_loopw [5] (fun i wr => ∃ j : Nat, i = .int .i64 j ∧ j ≤ L.length ∧ Hid (L.take j = M.take j ∧ Gr R0 wr)) (fun i _ => L.length - (intOf i).toNat)
      case atStart => exact ⟨0, rfl, by have := hlen.out; omega, ⟨rfl, Gr.refl _⟩⟩
      case round =>
        obtain ⟨j, rfl, hj, ⟨hf, hG⟩⟩ := hrel
        have BA1 := BA.out.gr hG
        have BB1 := BB.out.gr hG
        have ⟨z0, p0, f0⟩ := BA1.at
        have ⟨z1, p1, f1⟩ := BB1.at
        replace BA1 := Hid.mk BA1
        replace BB1 := Hid.mk BB1
        by_cases hlt : j < L.length
        · have jl : (j : Int) < L.length := by have := hlen.out; omega
          have jm : (j : Int) < M.length := by have := hlen.out; omega
          have hltm : j < M.length := by have := hlen.out; omega
          obtain ⟨b, off, rfl, hb, hb2, cc⟩ := (hL.out.below (hG.below.mono (Nat.le_refl _))) j hlt
          obtain ⟨b', off', rfl, hb', hb2', dd⟩ := (hM.out.below (hG.below.mono (Nat.le_refl _))) j hltm
          obtain ⟨c0, c1, c2, c3, c4, c5, c6, c7⟩ := slot_cells cc
          obtain ⟨d0, d1, d2, d3, d4, d5, d6, d7⟩ := slot_cells dd
          clear cc dd
          have hnx : L[j] = M[j] → L.take (j + 1) = M.take (j + 1) := fun h => by
            rw [List.take_succ_eq_append_getElem hlt, List.take_succ_eq_append_getElem hltm, hf, h]
          have hne : L[j] ≠ M[j] → L ≠ M := fun h e => h (by simp only [e])
          generalize L[j] = k at *
          generalize M[j] = m at *
          replace hf := Hid.mk hf
          replace hG := Hid.mk hG
          by_cases hkm : k = m
          · subst hkm
            replace hnx := Hid.mk (hnx rfl)
            clear hne
            go_wp2_with fail
            go_quiet (fail)
            go_wp2_with fail
            go_roundw
            case rel => exact ⟨j + 1, by simp, by have := hlen.out; omega, ⟨hnx.out, hG.out.drewN _⟩⟩
            case measure => simp [intOf]; omega
          · replace hne := Hid.mk (hne hkm)
            clear hnx
            have hkm2 : ¬ (k.t.cap = m.t.cap ∧ k.t.b = m.t.b ∧ k.t.e = m.t.e ∧ k.t.lo = m.t.lo ∧ k.t.hi = m.t.hi ∧ k.t.p = m.t.p ∧ k.t.s = m.t.s ∧ k.c = m.c) := fun h => hkm (by
              obtain ⟨⟨_, _, _, _, _, _, _⟩, _⟩ := k; obtain ⟨⟨_, _, _, _, _, _, _⟩, _⟩ := m
              simp only at h
              simp only [PSlot.mk.injEq, PTyp.mk.injEq]
              obtain ⟨a0, a1, a2, a3, a4, a5, a6, a7⟩ := h
              exact ⟨⟨a0, a1, a2, a3, a4, a5, a6⟩, a7⟩)
            clear hkm
            by_cases q0 : k.t.cap = m.t.cap
            · skip
              by_cases q1 : k.t.b = m.t.b
              · skip
                by_cases q2 : k.t.e = m.t.e
                · skip
                  by_cases q3 : k.t.lo = m.t.lo
                  · skip
                    by_cases q4 : k.t.hi = m.t.hi
                    · skip
                      by_cases q5 : k.t.p = m.t.p
                      · skip
                        by_cases q6 : k.t.s = m.t.s
                        · skip
                          have q7 : ¬ k.c = m.c := fun h => hkm2 ⟨q0, q1, q2, q3, q4, q5, q6, h⟩
                          clear hkm2
                          go_wp2_with fail
                          go_quiet (fail)
                          go_wp2_with fail
                          go_ret
                          exact ⟨eqb_no PReg.eqB_iff (fun e => hne.out (congrArg PReg.slots e)), (hGR.out.trans hG.out).drewN _⟩
                        · clear hkm2
                          go_wp2_with fail
                          go_quiet (fail)
                          go_wp2_with fail
                          go_ret
                          exact ⟨eqb_no PReg.eqB_iff (fun e => hne.out (congrArg PReg.slots e)), (hGR.out.trans hG.out).drewN _⟩
                      · clear hkm2
                        go_wp2_with fail
                        go_quiet (fail)
                        go_wp2_with fail
                        go_ret
                        exact ⟨eqb_no PReg.eqB_iff (fun e => hne.out (congrArg PReg.slots e)), (hGR.out.trans hG.out).drewN _⟩
                    · clear hkm2
                      go_wp2_with fail
                      go_quiet (fail)
                      go_wp2_with fail
                      go_ret
                      exact ⟨eqb_no PReg.eqB_iff (fun e => hne.out (congrArg PReg.slots e)), (hGR.out.trans hG.out).drewN _⟩
                  · clear hkm2
                    go_wp2_with fail
                    go_quiet (fail)
                    go_wp2_with fail
                    go_ret
                    exact ⟨eqb_no PReg.eqB_iff (fun e => hne.out (congrArg PReg.slots e)), (hGR.out.trans hG.out).drewN _⟩
                · clear hkm2
                  go_wp2_with fail
                  go_quiet (fail)
                  go_wp2_with fail
                  go_ret
                  exact ⟨eqb_no PReg.eqB_iff (fun e => hne.out (congrArg PReg.slots e)), (hGR.out.trans hG.out).drewN _⟩
              · clear hkm2
                go_wp2_with fail
                go_quiet (fail)
                go_wp2_with fail
                go_ret
                exact ⟨eqb_no PReg.eqB_iff (fun e => hne.out (congrArg PReg.slots e)), (hGR.out.trans hG.out).drewN _⟩
            · clear hkm2
              go_wp2_with fail
              go_quiet (fail)
              go_wp2_with fail
              go_ret
              exact ⟨eqb_no PReg.eqB_iff (fun e => hne.out (congrArg PReg.slots e)), (hGR.out.trans hG.out).drewN _⟩
        · have jl : ¬ (j : Int) < L.length := by have := hlen.out; omega
          have e : L = M := by
            rw [List.take_of_length_le (by have := hlen.out; omega), List.take_of_length_le (by have := hlen.out; omega)] at hf
            exact hf
          replace e := Hid.mk e
          clear hf hlt hj
          replace hG := Hid.mk hG
          go_wp2_with fail
          go_ret
          exact ⟨eqb_yes PReg.eqB_iff (by rw [e.out]), hGR.out.trans hG.out⟩
    · have g : ((L.length : Int) != M.length) = true := by simp; omega
      have e : L ≠ M := fun e => hlen (by rw [e])
      replace hlen := Hid.mk hlen
      replace e := Hid.mk e
      go_enter Tryd.func32, Tryd.ntmps32
      go_wp2_with fail
      go_ret
      exact ⟨eqb_no PReg.eqB_iff (fun q => e.out (congrArg PReg.slots q)), ((Gr.refl w).alloc _).alloc _⟩
  · have hx : (⟨b1, n1, d1, L⟩ : PReg) ≠ ⟨b2, n2, d2, M⟩ := fun e => h (by cases e; exact ⟨rfl, rfl, rfl⟩)
    replace hx := Hid.mk hx
    by_cases h1 : b1 = b2
    · have g1 : (b1 != b2) = false := by simpa using h1
      by_cases h2 : n1 = n2
      · have g2 : (n1 != n2) = false := by simpa using h2
        have h3 : d1 ≠ d2 := fun q => h ⟨h1, h2, q⟩
        have g3 : ¬ (str d1).toList = (str d2).toList := by rw [str_list, str_list]; exact h3
        clear h
        replace h1 := Hid.mk h1
        replace h2 := Hid.mk h2
        replace h3 := Hid.mk h3
        go_enter Tryd.func32, Tryd.ntmps32
        go_wp2_with fail
        go_ret
        exact ⟨eqb_no PReg.eqB_iff (hx.out), ((Gr.refl w).alloc _).alloc _⟩
      · have g2 : (n1 != n2) = true := by simpa using h2
        clear h
        replace h1 := Hid.mk h1
        replace h2 := Hid.mk h2
        go_enter Tryd.func32, Tryd.ntmps32
        go_wp2_with fail
        go_ret
        exact ⟨eqb_no PReg.eqB_iff (hx.out), ((Gr.refl w).alloc _).alloc _⟩
    · have g1 : (b1 != b2) = true := by simpa using h1
      clear h
      replace h1 := Hid.mk h1
      go_enter Tryd.func32, Tryd.ntmps32
      go_wp2_with fail
      go_ret
      exact ⟨eqb_no PReg.eqB_iff (hx.out), ((Gr.refl w).alloc _).alloc _⟩
end Go.Proofs.YthmfaafpdogpdabDoor


/-
  Stage 4, image: two compartments, compared, as the document has it.
-/
namespace Go.Proofs.YthmfaafpdogpdabDoor
open Go.RowKit

set_option maxRecDepth 10000 in
set_option maxHeartbeats 4000000 in
theorem sameComp_any (x y : PComp) (cl cm dl dm : Nat) (al am bl bm : Option Addr) (w : World) (hL : FIn 6 PRoot.vals w.heap.size w al x.roots) (hM : FIn 6 PRoot.vals w.heap.size w am y.roots) (hP : LIn w.heap.size w bl x.code) (hQ : LIn w.heap.size w bm y.code) (hl : x.roots.length ≤ maxG) (hl2 : x.code.length ≤ maxI) :
    Calls Tryd.prog 33 #[.agg #[.slice al x.roots.length cl, .slice bl x.code.length dl], .agg #[.slice am y.roots.length cm, .slice bm y.code.length dm]] w fun r w' => r = .returned (.bool (x.eqB y)) ∧ Gr w w' := by
  obtain ⟨L, P⟩ := x
  obtain ⟨M, Q⟩ := y
  simp only at *
  have hl1 : (L.length : Int) ≤ 140737488355328 := by unfold maxG at hl; omega
  have hl3 : (P.length : Int) ≤ 140737488355328 := by unfold maxI at hl2; omega
  replace hL := Hid.mk hL
  replace hM := Hid.mk hM
  replace hP := Hid.mk hP
  replace hQ := Hid.mk hQ
  by_cases hlen : L.length = M.length
  · have g : ((L.length : Int) != M.length) = false := by simp; omega
    replace hlen := Hid.mk hlen
    by_cases hlen2 : P.length = Q.length
    · have g2 : ((P.length : Int) != Q.length) = false := by simp; omega
      replace hlen2 := Hid.mk hlen2
      have hGR : Gr w ((w.alloc (.cells #[.slice al L.length cl, .slice bl P.length dl] 63)).alloc (.cells #[.slice am M.length cm, .slice bm Q.length dm] 63)) := ((Gr.refl w).alloc _).alloc _
      have BA : Box ((w.alloc (.cells #[.slice al L.length cl, .slice bl P.length dl] 63)).alloc (.cells #[.slice am M.length cm, .slice bm Q.length dm] 63)) w.heap.size #[.slice al L.length cl, .slice bl P.length dl] 63 := (Box.new w _ _).alloc _
      have BB : Box ((w.alloc (.cells #[.slice al L.length cl, .slice bl P.length dl] 63)).alloc (.cells #[.slice am M.length cm, .slice bm Q.length dm] 63)) (w.heap.size + 1) #[.slice am M.length cm, .slice bm Q.length dm] 63 := Box.next _ _ _ _
      replace hGR := Hid.mk hGR
      replace BA := Hid.mk BA
      replace BB := Hid.mk BB
      go_enter Tryd.func33, Tryd.ntmps33
      go_wp2_with fail
      generalize (w.alloc (.cells #[.slice al L.length cl, .slice bl P.length dl] 63)).alloc (.cells #[.slice am M.length cm, .slice bm Q.length dm] 63) = R0 at *
      replace hL := Hid.mk ((hL.out.below hGR.out.below).mono (gr_size hGR.out))
      replace hM := Hid.mk ((hM.out.below hGR.out.below).mono (gr_size hGR.out))
      replace hP := Hid.mk ((hP.out.below hGR.out.below).mono (gr_size hGR.out))
      replace hQ := Hid.mk ((hQ.out.below hGR.out.below).mono (gr_size hGR.out))
      go_loopw [5] (fun i wr => ∃ j : Nat, i = .int .i64 j ∧ j ≤ L.length ∧ Hid (L.take j = M.take j ∧ Gr R0 wr)) (fun i _ => L.length - (intOf i).toNat)
      case atStart => exact ⟨0, rfl, by have := hlen.out; omega, ⟨rfl, Gr.refl _⟩⟩
      case round =>
        obtain ⟨j, rfl, hj, ⟨hf, hG⟩⟩ := hrel
        have BA1 := BA.out.gr hG
        have BB1 := BB.out.gr hG
        have ⟨z0, p0, f0⟩ := BA1.at
        have ⟨z1, p1, f1⟩ := BB1.at
        replace BA1 := Hid.mk BA1
        replace BB1 := Hid.mk BB1
        by_cases hlt : j < L.length
        · have jl : (j : Int) < L.length := by have := hlen.out; omega
          have jm : (j : Int) < M.length := by have := hlen.out; omega
          have hltm : j < M.length := by have := hlen.out; omega
          obtain ⟨b, off, rfl, hb, hb2, cc⟩ := (hL.out.below (hG.below.mono (Nat.le_refl _))) j hlt
          obtain ⟨b', off', rfl, hb', hb2', dd⟩ := (hM.out.below (hG.below.mono (Nat.le_refl _))) j hltm
          obtain ⟨c0, c1, c2, c3, c4, c5⟩ := root_cells cc
          obtain ⟨d0, d1, d2, d3, d4, d5⟩ := root_cells dd
          clear cc dd
          have hnx : L[j] = M[j] → L.take (j + 1) = M.take (j + 1) := fun h => by
            rw [List.take_succ_eq_append_getElem hlt, List.take_succ_eq_append_getElem hltm, hf, h]
          have hne : L[j] ≠ M[j] → L ≠ M := fun h e => h (by simp only [e])
          generalize L[j] = k at *
          generalize M[j] = m at *
          replace hf := Hid.mk hf
          replace hG := Hid.mk hG
          by_cases hkm : k = m
          · subst hkm
            replace hnx := Hid.mk (hnx rfl)
            clear hne
            go_wp2_with fail
            go_quiet (fail)
            go_wp2_with fail
            go_roundw
            case rel => exact ⟨j + 1, by simp, by have := hlen.out; omega, ⟨hnx.out, hG.out.drewN _⟩⟩
            case measure => simp [intOf]; omega
          · replace hne := Hid.mk (hne hkm)
            clear hnx
            have hkm2 : ¬ (k.r = m.r ∧ k.b = m.b ∧ k.e = m.e ∧ k.c = m.c ∧ k.p = m.p ∧ k.s = m.s) := fun h => hkm (by
              cases k; cases m; simp only [PRoot.mk.injEq]; exact h)
            clear hkm
            by_cases q0 : k.r = m.r
            · skip
              by_cases q1 : k.b = m.b
              · skip
                by_cases q2 : k.e = m.e
                · skip
                  by_cases q3 : k.c = m.c
                  · skip
                    by_cases q4 : k.p = m.p
                    · skip
                      have q5 : ¬ k.s = m.s := fun h => hkm2 ⟨q0, q1, q2, q3, q4, h⟩
                      clear hkm2
                      go_wp2_with fail
                      go_quiet (fail)
                      go_wp2_with fail
                      go_ret
                      exact ⟨eqb_no PComp.eqB_iff (fun e => hne.out (congrArg PComp.roots e)), (hGR.out.trans hG.out).drewN _⟩
                    · clear hkm2
                      go_wp2_with fail
                      go_quiet (fail)
                      go_wp2_with fail
                      go_ret
                      exact ⟨eqb_no PComp.eqB_iff (fun e => hne.out (congrArg PComp.roots e)), (hGR.out.trans hG.out).drewN _⟩
                  · clear hkm2
                    go_wp2_with fail
                    go_quiet (fail)
                    go_wp2_with fail
                    go_ret
                    exact ⟨eqb_no PComp.eqB_iff (fun e => hne.out (congrArg PComp.roots e)), (hGR.out.trans hG.out).drewN _⟩
                · clear hkm2
                  go_wp2_with fail
                  go_quiet (fail)
                  go_wp2_with fail
                  go_ret
                  exact ⟨eqb_no PComp.eqB_iff (fun e => hne.out (congrArg PComp.roots e)), (hGR.out.trans hG.out).drewN _⟩
              · clear hkm2
                go_wp2_with fail
                go_quiet (fail)
                go_wp2_with fail
                go_ret
                exact ⟨eqb_no PComp.eqB_iff (fun e => hne.out (congrArg PComp.roots e)), (hGR.out.trans hG.out).drewN _⟩
            · clear hkm2
              go_wp2_with fail
              go_quiet (fail)
              go_wp2_with fail
              go_ret
              exact ⟨eqb_no PComp.eqB_iff (fun e => hne.out (congrArg PComp.roots e)), (hGR.out.trans hG.out).drewN _⟩
        · have jl : ¬ (j : Int) < L.length := by have := hlen.out; omega
          have e : L = M := by
            rw [List.take_of_length_le (by have := hlen.out; omega), List.take_of_length_le (by have := hlen.out; omega)] at hf
            exact hf
          replace e := Hid.mk e
          clear hf hlt hj
          replace hG := Hid.mk hG
          go_wp2_with fail
          have e1 := e
          clear e
          replace BA := BA1
          replace BB := BB1
          clear BA1 BB1 z0 p0 f0 z1 p1 f1 jl
          replace hP := Hid.mk ((hP.out.below hG.out.below).mono (gr_size hG.out))
          replace hQ := Hid.mk ((hQ.out.below hG.out.below).mono (gr_size hG.out))
          replace hGR := Hid.mk (hGR.out.trans hG.out)
          clear hG hL hM
          have hR1 := Hid.mk (Gr.refl wr)
          generalize wr = R1 at *
          go_loopw [6] (fun i wr => ∃ j : Nat, i = .int .i64 j ∧ j ≤ P.length ∧ Hid (P.take j = Q.take j ∧ Gr R1 wr)) (fun i _ => P.length - (intOf i).toNat)
          case atStart => exact ⟨0, rfl, by have := hlen2.out; omega, ⟨rfl, Gr.refl _⟩⟩
          case round =>
            obtain ⟨j, rfl, hj, ⟨hf, hG⟩⟩ := hrel
            have BA1 := BA.out.gr hG
            have BB1 := BB.out.gr hG
            have ⟨z0, p0, f0⟩ := BA1.at
            have ⟨z1, p1, f1⟩ := BB1.at
            replace BA1 := Hid.mk BA1
            replace BB1 := Hid.mk BB1
            by_cases hlt : j < P.length
            · have jl : (j : Int) < P.length := by have := hlen2.out; omega
              have jm : (j : Int) < Q.length := by have := hlen2.out; omega
              have hltm : j < Q.length := by have := hlen2.out; omega
              obtain ⟨b, off, rfl, hb, hb2, cc⟩ := (hP.out.below (hG.below.mono (Nat.le_refl _))) j hlt
              obtain ⟨b', off', rfl, hb', hb2', dd⟩ := (hQ.out.below (hG.below.mono (Nat.le_refl _))) j hltm
              obtain ⟨c0, c1, c2, c3, c4⟩ := ins_cells cc
              obtain ⟨d0, d1, d2, d3, d4⟩ := ins_cells dd
              clear cc dd
              have hnx : P[j] = Q[j] → P.take (j + 1) = Q.take (j + 1) := fun h => by
                rw [List.take_succ_eq_append_getElem hlt, List.take_succ_eq_append_getElem hltm, hf, h]
              have hne : P[j] ≠ Q[j] → P ≠ Q := fun h e => h (by simp only [e])
              generalize P[j] = k at *
              generalize Q[j] = m at *
              replace hf := Hid.mk hf
              replace hG := Hid.mk hG
              by_cases hkm : k = m
              · subst hkm
                replace hnx := Hid.mk (hnx rfl)
                clear hne
                go_wp2_with fail
                go_quiet (fail)
                go_wp2_with fail
                go_roundw
                case rel => exact ⟨j + 1, by simp, by have := hlen2.out; omega, ⟨hnx.out, hG.out.drewN _⟩⟩
                case measure => simp [intOf]; omega
              · replace hne := Hid.mk (hne hkm)
                clear hnx
                have hkm2 : ¬ (k.op = m.op ∧ k.a = m.a ∧ k.b = m.b ∧ k.c = m.c ∧ k.m = m.m) := fun h => hkm (by
                  cases k; cases m; simp only [Ins.mk.injEq]; exact h)
                clear hkm
                by_cases q0 : k.op = m.op
                · skip
                  by_cases q1 : k.a = m.a
                  · skip
                    by_cases q2 : k.b = m.b
                    · skip
                      by_cases q3 : k.c = m.c
                      · skip
                        have q4 : ¬ k.m = m.m := fun h => hkm2 ⟨q0, q1, q2, q3, h⟩
                        clear hkm2
                        go_wp2_with fail
                        go_quiet (fail)
                        go_wp2_with fail
                        go_ret
                        exact ⟨eqb_no PComp.eqB_iff (fun e => hne.out (congrArg PComp.code e)), (hGR.out.trans hG.out).drewN _⟩
                      · clear hkm2
                        go_wp2_with fail
                        go_quiet (fail)
                        go_wp2_with fail
                        go_ret
                        exact ⟨eqb_no PComp.eqB_iff (fun e => hne.out (congrArg PComp.code e)), (hGR.out.trans hG.out).drewN _⟩
                    · clear hkm2
                      go_wp2_with fail
                      go_quiet (fail)
                      go_wp2_with fail
                      go_ret
                      exact ⟨eqb_no PComp.eqB_iff (fun e => hne.out (congrArg PComp.code e)), (hGR.out.trans hG.out).drewN _⟩
                  · clear hkm2
                    go_wp2_with fail
                    go_quiet (fail)
                    go_wp2_with fail
                    go_ret
                    exact ⟨eqb_no PComp.eqB_iff (fun e => hne.out (congrArg PComp.code e)), (hGR.out.trans hG.out).drewN _⟩
                · clear hkm2
                  go_wp2_with fail
                  go_quiet (fail)
                  go_wp2_with fail
                  go_ret
                  exact ⟨eqb_no PComp.eqB_iff (fun e => hne.out (congrArg PComp.code e)), (hGR.out.trans hG.out).drewN _⟩
            · have jl : ¬ (j : Int) < P.length := by have := hlen2.out; omega
              have e : P = Q := by
                rw [List.take_of_length_le (by have := hlen2.out; omega), List.take_of_length_le (by have := hlen2.out; omega)] at hf
                exact hf
              replace e := Hid.mk e
              clear hf hlt hj
              replace hG := Hid.mk hG
              go_wp2_with fail
              go_ret
              exact ⟨eqb_yes PComp.eqB_iff (by rw [e1.out, e.out]), hGR.out.trans hG.out⟩
    · have g2 : ((P.length : Int) != Q.length) = true := by simp; omega
      have e : P ≠ Q := fun e => hlen2 (by rw [e])
      replace hlen2 := Hid.mk hlen2
      replace e := Hid.mk e
      go_enter Tryd.func33, Tryd.ntmps33
      go_wp2_with fail
      go_ret
      exact ⟨eqb_no PComp.eqB_iff (fun q => e.out (congrArg PComp.code q)), ((Gr.refl w).alloc _).alloc _⟩
  · have g : ((L.length : Int) != M.length) = true := by simp; omega
    have e : L ≠ M := fun e => hlen (by rw [e])
    replace hlen := Hid.mk hlen
    replace e := Hid.mk e
    go_enter Tryd.func33, Tryd.ntmps33
    go_wp2_with fail
    go_ret
    exact ⟨eqb_no PComp.eqB_iff (fun q => e.out (congrArg PComp.roots q)), ((Gr.refl w).alloc _).alloc _⟩
end Go.Proofs.YthmfaafpdogpdabDoor
