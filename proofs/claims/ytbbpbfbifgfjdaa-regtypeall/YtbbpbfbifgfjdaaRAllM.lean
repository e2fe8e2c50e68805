/-
  Stage 9, regtype: of all registers: the plain part of RegtypeAll. No Go in sight.
-/
import Derived.Test.YtbbpbfbifgfjdaaRStAll
namespace Go.Proofs.Ytbbpbfbifgfjdaa
namespace R
open Go.RowKit

theorem U9J {a b : RT} (c : RT) (ha : a.Rng) (hb : b.Rng) : U9 (J9 a b) c = (U9 a c && U9 b c) := by
  unfold U9 J9
  rw [RV.nm_rt (RV.jn_ok (RT.nm_ok ha) (RT.nm_ok hb)), RV.jn_least (RT.nm_ok ha) (RT.nm_ok hb)]
theorem U9F {a : RT} (c : RT) (ha : a.Rng) : U9 (F9 a) c = U9 a c := by
  unfold U9 F9
  rw [RV.nm_rt (RT.nm_ok ha)]
theorem H9F {a : RT} (v : Vv) (ha : a.Rng) : H9 (F9 a) v = H9 a v := by
  unfold H9 F9
  rw [RV.nm_rt (RT.nm_ok ha)]
theorem all2_map {β : Type} {U : RT → β → Bool} {F : RT → RT} : ∀ (A : List RT) (C : List β), (∀ a ∈ A, ∀ c, U (F a) c = U a c) → all2 U (A.map F) C = all2 U A C
  | [], _, _ => rfl
  | _ :: _, [], _ => rfl
  | a :: A, c :: C, h => by
    rw [List.map_cons, all2, all2, h a (List.mem_cons_self ..), all2_map A C (fun x hx => h x (List.mem_cons_of_mem _ hx))]
theorem all2_zip {U : RT → RT → Bool} {G : RT → RT → RT} : ∀ (A B C : List RT), A.length = B.length → (∀ a ∈ A, ∀ b ∈ B, ∀ c, U (G a b) c = (U a c && U b c)) → all2 U (List.zipWith G A B) C = (all2 U A C && all2 U B C)
  | [], [], C, _, _ => by cases C <;> rfl
  | [], _ :: _, _, h, _ => by simp at h
  | _ :: _, [], _, h, _ => by simp at h
  | _ :: _, _ :: _, [], _, _ => rfl
  | a :: A, b :: B, c :: C, hl, h => by
    rw [List.zipWith_cons_cons, all2, all2, all2, h a (List.mem_cons_self ..) b (List.mem_cons_self ..), all2_zip A B C (by simpa using hl) (fun x hx y hy => h x (List.mem_cons_of_mem _ hx) y (List.mem_cons_of_mem _ hy))]
    cases U a c <;> cases U b c <;> simp
theorem all2_imp {β : Type} {U V : RT → β → Bool} : ∀ (A A' : List RT) (C : List β), A.length = A'.length → (∀ i (h : i < A.length) (h' : i < A'.length) (hc : i < C.length), U A[i] C[i] = true → V A'[i] C[i] = true) → all2 U A C = true → all2 V A' C = true := fun A A' C hl h q => by
  rw [all2_iff] at q ⊢
  intro i ha hc
  exact h i (by omega) ha hc (q i (by omega) hc)
theorem jn_row {A B : List RT} (hA : R16 A) (hB : R16 B) : ∀ a ∈ A, ∀ b ∈ B, ∀ c, U9 (J9 a b) c = (U9 a c && U9 b c) := fun a ha b hb c => U9J c (hA.2 a ha) (hB.2 b hb)
/-- A join is under a third just if both are. -/
theorem least_st {la lb lc : Bool} {A B C : List RT} (hA : R16 A) (hB : R16 B) : uS U9 (mL la lb) (mR F9 J9 la A lb B) lc C = (uS U9 la A lc C && uS U9 lb B lc C) := by
  cases la
  · rw [show mL false lb = lb from rfl, show mR F9 J9 false A lb B = kR F9 lb B from rfl]
    cases lb
    · rfl
    · rw [show kR F9 true B = B.map F9 from rfl]
      unfold uS
      rw [all2_map B C (fun a ha c => U9F c (hB.2 a ha))]
      simp
  · cases lb
    · rw [show mL true false = true from rfl, show mR F9 J9 true A false B = A.map F9 from rfl]
      unfold uS
      rw [all2_map A C (fun a ha c => U9F c (hA.2 a ha))]
      simp
    · rw [show mL true true = true from rfl, show mR F9 J9 true A true B = List.zipWith J9 A B from rfl]
      unfold uS
      rw [all2_zip A B C (by rw [hA.1, hB.1]) (jn_row hA hB)]
      cases lc <;> simp
theorem U9_refl (a : RT) : U9 a a = true := RV.und_refl _
theorem all2_refl {U : RT → RT → Bool} (h : ∀ a, U a a = true) : ∀ A : List RT, all2 U A A = true
  | [] => rfl
  | a :: A => by rw [all2, h, all2_refl h A]; rfl
theorem uS_refl (l : Bool) (A : List RT) : uS U9 l A l A = true := by
  unfold uS
  rw [all2_refl U9_refl]
  cases l <;> rfl
theorem above_st {la lb : Bool} {A B : List RT} (hA : R16 A) (hB : R16 B) : uS U9 la A (mL la lb) (mR F9 J9 la A lb B) = true ∧ uS U9 lb B (mL la lb) (mR F9 J9 la A lb B) = true := by
  have := least_st (la := la) (lb := lb) (lc := mL la lb) (C := mR F9 J9 la A lb B) hA hB
  rw [uS_refl] at this
  simpa using this.symm
theorem U9_trans {a b c : RT} (h : U9 a b = true) (k : U9 b c = true) : U9 a c = true := RV.und_trans h k
theorem J9W9 {a b : RT} (ha : a.Rng) (hb : b.Rng) : U9 (J9 a b) (W9 a b) = true := by
  unfold U9 J9 W9
  rw [RV.nm_rt (RV.jn_ok (RT.nm_ok ha) (RT.nm_ok hb)), RV.nm_rt (RV.wd_ok (RT.nm_ok ha) (RT.nm_ok hb))]
  exact RV.jn_wd (RT.nm_ok ha) (RT.nm_ok hb)
/-- A join is under what is widened. -/
theorem wide_st {la lb : Bool} {A B : List RT} (hA : R16 A) (hB : R16 B) : uS U9 (mL la lb) (mR F9 J9 la A lb B) (mL la lb) (mR F9 W9 la A lb B) = true := by
  cases la
  · exact uS_refl _ _
  · cases lb
    · exact uS_refl _ _
    · rw [show mL true true = true from rfl, show mR F9 J9 true A true B = List.zipWith J9 A B from rfl, show mR F9 W9 true A true B = List.zipWith W9 A B from rfl]
      have : all2 U9 (List.zipWith J9 A B) (List.zipWith W9 A B) = true := by
        rw [all2_iff]
        intro i h1 h2
        have e1 : i < A.length := by rw [List.length_zipWith] at h1; omega
        have e2 : i < B.length := by rw [List.length_zipWith] at h1; omega
        rw [List.getElem_zipWith, List.getElem_zipWith]
        exact J9W9 (hA.2 _ (List.getElem_mem e1)) (hB.2 _ (List.getElem_mem e2))
      unfold uS
      rw [this]
      rfl
theorem uS_trans {la lb lc : Bool} {A B C : List RT} (hA : A.length = 16) (hB : B.length = 16) (h : uS U9 la A lb B = true) (k : uS U9 lb B lc C = true) : uS U9 la A lc C = true := by
  cases la
  · rfl
  · cases lb
    · cases h
    · cases lc
      · cases k
      · have h' : all2 U9 A B = true := h
        have k' : all2 U9 B C = true := k
        show all2 U9 A C = true
        rw [all2_iff] at h' k' ⊢
        exact fun i ha hc => U9_trans (h' i ha (by omega)) (k' i (by omega) hc)
/-- What is under another state allows no more. -/
theorem aS_und {la lb : Bool} {A B : List RT} {V : List Vv} (hA : A.length = 16) (hB : B.length = 16) (h : uS U9 la A lb B = true) (k : aS H9 la A V = true) : aS H9 lb B V = true := by
  cases la
  · cases k
  · cases lb
    · cases h
    · have h' : all2 U9 A B = true := h
      have k' : all2 H9 A V = true := k
      show all2 H9 B V = true
      rw [all2_iff] at h' k' ⊢
      exact fun i hb hv => RV.has_und (h' i (by omega) hb) (k' i (by omega) hv)
theorem aS_at {l : Bool} {A : List RT} {V : List Vv} (k : aS H9 l A V = true) (i : Nat) (ha : i < A.length) (hv : i < V.length) : H9 A[i] V[i] = true := by
  cases l
  · cases k
  · exact (all2_iff H9 A V).1 k i ha hv
end R
end Go.Proofs.Ytbbpbfbifgfjdaa
