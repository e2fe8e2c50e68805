/-
  Stage 1, capword: what the statement's helper made does.
-/
import Derived.Test.YtmnmflpbpklmiabNAuth
namespace Go.Proofs.Ytmnmflpbpklmiab
open Go.RowKit

theorem fit_no {A : List Kap} {c x : Kap} (h : ¬ (x.b ≤ c.b ∧ c.e ≤ x.e ∧ hasB x.p c.p = true ∧ (c.s = x.s ∨ (x.s = 0 ∨ authB A x.s 64 = true) ∧ (c.s = 0 ∨ authB A c.s 32 = true)))) : fitB A c x = false := by
  rw [Bool.eq_false_iff]; exact fun hh => h (fit_iff.mp hh)
theorem fit_next {L : List Kap} {c : Kap} {j : Nat} {kk : Kap} (hno : ∀ m (hm : m < L.length), m < j → fitB L c L[m] = false) (hlt : j < L.length) (hk : L[j] = kk) (hf : fitB L c kk = false) : ∀ m (hm : m < L.length), m < j + 1 → fitB L c L[m] = false := by
  intro m hm h
  rcases Nat.lt_or_ge m j with h1 | h1
  · exact hno m hm h1
  · obtain rfl : m = j := by omega
    rw [hk]; exact hf
theorem made_yes {L : List Kap} {c : Kap} {j : Nat} {kk : Kap} (hlt : j < L.length) (hk : L[j] = kk) (h : fitB L c kk = true) : true = madeB L c :=
  (made_iff.mpr ⟨kk, hk ▸ List.getElem_mem hlt, h⟩).symm

set_option maxHeartbeats 2000000 in
theorem made_any (base g cp : Nat) (L : List Kap) (b e c p s : Int) (w : World) (hL : LAt w base g cp L) (hlen : L.length ≤ 1000) (hR : ∀ k ∈ L, Rk k) (hs : 0 ≤ s ∧ s ≤ 15) :
    Calls Try.prog 24 #[.slice (some ⟨g, 0, none⟩) L.length cp, .agg #[.int .u64 b, .int .u64 e, .int .u64 c, .int .u8 p, .int .i64 s]] w fun x w' => x = .returned (.bool (madeB L ⟨b, e, c, p, s⟩)) ∧ Below w.heap.size w w' := by
  obtain ⟨s0, s1⟩ := hs
  go_enter Try.func24, Try.ntmps24
  go_wp2
  go_loopw [5] (fun i wr => ∃ j : Nat, j ≤ L.length ∧ i = .int .i64 j ∧ LAt wr base g cp L ∧ At wr w.heap.size #[.int .u64 b, .int .u64 e, .int .u64 c, .int .u8 p, .int .i64 s] ∧ Below w.heap.size w wr ∧ Hid (∀ m (hm : m < L.length), m < j → fitB L ⟨b, e, c, p, s⟩ L[m] = false)) (fun i _ => L.length - (intOf i).toNat)
  case atStart => exact ⟨0, by omega, rfl, hL.alloc _, At.new _ _ _, below_one w _, fun m _ h => by omega⟩
  case round =>
    clear hL
    obtain ⟨j, hj, rfl, hL, hC, hB, hno⟩ := hrel
    have q_hC := hC.2.1
    have z_hC := hC.1
    by_cases hlt : j < L.length
    · obtain ⟨kk, hkk⟩ : ∃ kk, L[j] = kk := ⟨_, rfl⟩
      obtain ⟨y0, y1, y2, y3, y4⟩ := hL.five j hlt hkk
      have hRk := hR kk (hkk ▸ List.getElem_mem hlt)
      obtain ⟨_, _, _, ⟨ks0, ks1⟩⟩ := hRk
      have HK : Hid (L[j] = kk) := hkk
      clear hkk
      go_wp2_with (go_at_call 33; refine (auth_any base g cp L _ _ _ (hL.alloc _) hlen (by omega)).mono ?_; rintro x w' ⟨rfl, rfl⟩)
      all_goals clear y0 y1 y2 y3 y4 q_hC
      all_goals first
        | (go_ret; exact ⟨ret_bool (made_yes hlt HK.out (by simp_all [fitB, hasB])), hB.alloc hB.size _⟩)
        | exact ⟨⟨j + 1, by omega, by go_num, hL.alloc _, hC.alloc _, hB.alloc hB.size _, fit_next hno.out hlt HK.out (fit_no (by simp_all [hasB] <;> omega))⟩, by simp [intOf]; omega⟩
    · go_wp2
      go_ret
      refine ⟨ret_bool ?_, hB⟩
      symm
      rw [Bool.eq_false_iff]
      intro ha
      obtain ⟨k, hk, hh⟩ := made_iff.mp ha
      obtain ⟨m, hm, rfl⟩ := List.mem_iff_getElem.mp hk
      rw [hno.out m hm (by omega)] at hh
      simp at hh
end Go.Proofs.Ytmnmflpbpklmiab
