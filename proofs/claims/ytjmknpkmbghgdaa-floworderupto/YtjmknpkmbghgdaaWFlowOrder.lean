/-
  Stage 8, flow: FlowOrder, walked.
-/
import Derived.Test.YtjmknpkmbghgdaaFHead
import Derived.Test.YtjmknpkmbghgdaaFOrdM
namespace Go.Proofs.Ytjmknpkmbghgdaa
namespace F
open Go.RowKit
open T

set_option maxHeartbeats 1000000 in
theorem pick_any (c : Int) (n : Nat) (w : World) (h0 : 0 < n) (hn : n < 2000000) (hc : -9223372036854775808 ≤ c ∧ c < 9223372036854775808) : Calls Try.prog 14 #[.int .i64 c, .int .i64 n] w fun e w' => (∃ k : Nat, k < n ∧ e = .returned (.int .i64 k)) ∧ w' = w := by
  have hn1 : ¬ (n : Int) = 0 := by omega
  have hz : ((n : Int) == 0) = false := by simpa using hn1
  by_cases hlt : c < 0
  · have h1 : IntKind.i64.wrap (c + 1) = c + 1 := by rw [IntKind.wrap_i64]; omega
    have h2 : IntKind.i64.wrap (-(c + 1)) = -(c + 1) := by rw [IntKind.wrap_i64]; omega
    have h3 : ∃ k : Nat, k < n ∧ -((c + 1).tmod n) = (k : Int) := by
      obtain ⟨d, hd⟩ := Int.eq_ofNat_of_zero_le (show 0 ≤ -(c + 1) by omega)
      refine ⟨d % n, Nat.mod_lt _ h0, ?_⟩
      rw [← Int.neg_tmod, hd]
      simp [Int.tmod]
    obtain ⟨k, hk, h3⟩ := h3
    go_enter Try.func14, Try.ntmps14
    go_wp2_with fail
    go_ret
    exact ⟨⟨k, hk, by rw [← h3]; rfl⟩, rfl⟩
  · have h3 : ∃ k : Nat, k < n ∧ c % (n : Int) = (k : Int) := by
      obtain ⟨d, hd⟩ := Int.eq_ofNat_of_zero_le (show 0 ≤ c by omega)
      refine ⟨d % n, Nat.mod_lt _ h0, ?_⟩
      rw [hd]
      simp
    obtain ⟨k, hk, h3⟩ := h3
    go_enter Try.func14, Try.ntmps14
    go_wp2_with fail
    go_ret
    exact ⟨⟨k, hk, by rw [← h3]; rfl⟩, rfl⟩
theorem ord1 {L : List Ins} {E : List Int} {a : Nat} (ha : a < L.length) : domB L E a a = true := (dom_iff ha ha).2 (fun l _ => by simp)
theorem rch_ways {L : List Ins} {E : List Int} {b : Nat} (h : rchB L E (-1) b = true) : ∃ l, Way L E (b :: l) := by
  obtain ⟨l, h1, _⟩ := rch_way (rchB_iff.1 h)
  exact ⟨l, h1⟩
theorem ord2 {L : List Ins} {E : List Int} {a b : Nat} (ha : a < L.length) (hb : b < L.length) (h : rchB L E (-1) b = false) : domB L E a b = true := by
  refine (dom_iff ha hb).2 (fun l hl => ?_)
  have := rchB_iff.2 (way_rch (out := -1) hl (fun x _ => by omega))
  rw [h] at this
  cases this
theorem ord3 {L : List Ins} {E : List Int} {a b : Nat} (ha : a < L.length) (hb : b < L.length) (h : (b : Int) ∈ E) (hab : a ≠ b) : domB L E a b = false := by
  cases e : domB L E a b with
  | false => rfl
  | true =>
    have := (dom_iff ha hb).1 e [] (.base h hb)
    simp at this
    exact absurd this hab
theorem ord4 {L : List Ins} {E : List Int} {a b c : Nat} (ha : a < L.length) (hb : b < L.length) (hc : c < L.length) (h1 : domB L E a b = true) (h2 : domB L E b c = true) : domB L E a c = true :=
  (dom_iff ha hc).2 (dom_trans ((dom_iff ha hb).1 h1) ((dom_iff hb hc).1 h2))
theorem ord5 {L : List Ins} {E : List Int} {a b c : Nat} (ha : a < L.length) (hb : b < L.length) (hc : c < L.length) (h1 : domB L E a c = true) (h2 : domB L E b c = true) (hr : rchB L E (-1) c = true) : domB L E a b = true ∨ domB L E b a = true := by
  rcases dom_or ((dom_iff ha hc).1 h1) ((dom_iff hb hc).1 h2) (rch_ways hr) with r | r
  · exact .inl ((dom_iff ha hb).2 r)
  · exact .inr ((dom_iff hb ha).2 r)
theorem ord6 {L : List Ins} {E : List Int} {a b : Nat} (ha : a < L.length) (hb : b < L.length) (h1 : domB L E a b = true) (h2 : domB L E b a = true) (hr : rchB L E (-1) a = true) : a = b :=
  dom_anti ((dom_iff ha hb).1 h1) ((dom_iff hb ha).1 h2) (rch_ways hr)
set_option maxRecDepth 100000 in
set_option maxHeartbeats 8000000 in
theorem walk_FlowOrder (L : List Ins) (cc : Nat) (ca : Option Addr) (E : List Int) (ec : Nat) (ea : Option Addr) (a b c : Int) (w : World) (hL : LIn w.heap.size w ca L) (hE : NIn w.heap.size w ea E) (hnil : NilOk ea E.length ec) (ha : -9223372036854775808 ≤ a ∧ a < 9223372036854775808) (hb : -9223372036854775808 ≤ b ∧ b < 9223372036854775808) (hc : -9223372036854775808 ≤ c ∧ c < 9223372036854775808) (hn : L.length < 2000000) (he : E.length ≤ 2000000) :
    Calls Try.prog 5 #[.slice ca L.length cc, .slice ea E.length ec, .int .i64 a, .int .i64 b, .int .i64 c] w fun e w' => e = .returned (.bool true) ∧ Below w.heap.size w w' := by
  have hH := head_any w
  by_cases h0 : L.length = 0
  · have h0' : ((L.length : Int) == 0) = true := by simpa using h0
    replace h0 := Hid.mk h0
    replace hL := Hid.mk hL
    replace hE := Hid.mk hE
    replace hnil := Hid.mk hnil
    replace hH := Hid.mk hH
    go_enter Try.func5, Try.ntmps5
    go_wp2_with (first | (go_at_call 9; refine hH.out.mono ?_; rintro x w1 ⟨rfl, q1⟩; replace q1 := Hid.mk q1))
    go_ret
    exact ⟨rfl, q1.out⟩
  · have h0' : ((L.length : Int) == 0) = false := by simpa using h0
    have hP := fun x W (r : -9223372036854775808 ≤ x ∧ x < 9223372036854775808) => pick_any x L.length W (by omega) hn r
    have hR := fun W (q : Below w.heap.size w W) => Reached_any L E cc ec ca ea W ((hL.below q).mono q.size) ((hE.below q).mono q.size) hnil hn (by omega)
    have hD := fun x y W (q : Below w.heap.size w W) => Dominates_any L E cc ec ca ea x y W ((hL.below q).mono q.size) ((hE.below q).mono q.size) hnil hn (by omega)
    replace h0 := Hid.mk h0
    replace hL := Hid.mk hL
    replace hE := Hid.mk hE
    replace hnil := Hid.mk hnil
    replace hH := Hid.mk hH
    replace hP := Hid.mk hP
    replace hR := Hid.mk hR
    replace hD := Hid.mk hD
    go_enter Try.func5, Try.ntmps5
    go_wp2_with (first | (go_at_call 9; refine hH.out.mono ?_; rintro x w1 ⟨rfl, q1⟩; replace q1 := Hid.mk q1) | (go_at_call 14; first | (refine (hP.out a _ ha).mono ?_; rintro x w2 ⟨⟨a0, ha0, rfl⟩, rfl⟩; clear ha) | (refine (hP.out b _ hb).mono ?_; rintro x w2 ⟨⟨b0, hb0, rfl⟩, rfl⟩; clear hb) | (refine (hP.out c _ hc).mono ?_; rintro x w2 ⟨⟨c0, hc0, rfl⟩, rfl⟩; clear hc)))
    have c2 : Hid (Below w.heap.size w w2) := q1
    refine (hR.out _ c2.out).mono ?_
    rintro x w3 ⟨g, rfl, r1, r2, r3⟩
    have c3 := Hid.mk (c2.out.trans (r3.mono c2.out.size))
    have b3 : Hid (Below w3.heap.size w3 w3) := Hid.mk (Below.refl _ _)
    have hgl := r2.1
    replace r2 := Hid.mk r2
    clear r1 r3 q1 c2
    go_wp2_with (first | (go_at_call 15; refine (hD.out _ _ _ c6.out).mono ?_; rintro x w7 ⟨rfl, d1⟩; have c7 := Hid.mk (c6.out.trans (d1.mono c6.out.size)); have b7 := Hid.mk (b6.out.trans (d1.mono b6.out.size)); clear d1 c6 b6) | (go_at_call 15; refine (hD.out _ _ _ c5.out).mono ?_; rintro x w6 ⟨rfl, d1⟩; have c6 := Hid.mk (c5.out.trans (d1.mono c5.out.size)); have b6 := Hid.mk (b5.out.trans (d1.mono b5.out.size)); clear d1 c5 b5) | (go_at_call 15; refine (hD.out _ _ _ c4.out).mono ?_; rintro x w5 ⟨rfl, d1⟩; have c5 := Hid.mk (c4.out.trans (d1.mono c4.out.size)); have b5 := Hid.mk (b4.out.trans (d1.mono b4.out.size)); clear d1 c4 b4) | (go_at_call 15; refine (hD.out _ _ _ c3.out).mono ?_; rintro x w4 ⟨rfl, d1⟩; have c4 := Hid.mk (c3.out.trans (d1.mono c3.out.size)); have b4 := Hid.mk (b3.out.trans (d1.mono b3.out.size)); clear d1 c3 b3))
    refine (hD.out _ _ _ c7.out).mono ?_
    rintro x w8 ⟨rfl, d1⟩
    have c8 := Hid.mk (c7.out.trans (d1.mono c7.out.size))
    have b8 := b7.out.trans (d1.mono b7.out.size)
    rw [ord1 ha0]
    have za := (b8.cell (p := ⟨g, a0, none⟩) hgl).trans (boolA_at r2.out a0 ha0)
    have zb := (b8.cell (p := ⟨g, b0, none⟩) hgl).trans (boolA_at r2.out b0 hb0)
    have zc := (b8.cell (p := ⟨g, c0, none⟩) hgl).trans (boolA_at r2.out c0 hc0)
    have hgl8 : g < w8.heap.size := Nat.lt_of_lt_of_le hgl b8.size
    have O2 := ord2 (E := E) ha0 hb0
    have O3 := ord3 (E := E) ha0 hb0
    have O4 := ord4 (E := E) ha0 hb0 hc0
    have O5 := ord5 (E := E) ha0 hb0 hc0
    have O6 := ord6 (E := E) ha0 hb0
    have ia : (a0 : Int) < L.length := by omega
    have ib : (b0 : Int) < L.length := by omega
    have ic : (c0 : Int) < L.length := by omega
    clear d1 b8 b7 c7 r2 hgl hD hR hP hH h0
    generalize domB L E a0 b0 = ab at *
    generalize domB L E b0 a0 = ba at *
    generalize domB L E b0 c0 = bc at *
    generalize domB L E a0 c0 = ac at *
    generalize rchB L E (-1) a0 = la at *
    generalize rchB L E (-1) b0 = lb at *
    generalize rchB L E (-1) c0 = lc at *
    have hk1 : lb = true ∨ (lb = false ∧ ab = true) := by
      cases lb
      · exact .inr ⟨rfl, O2 rfl⟩
      · exact .inl rfl
    replace O2 := Hid.mk O2
    replace O3 := Hid.mk O3
    replace O4 := Hid.mk O4
    replace O5 := Hid.mk O5
    replace O6 := Hid.mk O6
    rcases hk1 with rfl | ⟨rfl, rfl⟩
    · go_wp2_with fail
      go_loopw [18] (fun i wr => ∃ j : Nat, i = .int .i64 j ∧ j ≤ E.length ∧ wr = w8) (fun i _ => E.length - (intOf i).toNat)
      case atStart => exact ⟨0, rfl, by omega, rfl⟩
      case round =>
        obtain ⟨j, rfl, hj, rfl⟩ := hrel
        by_cases hlt : j < E.length
        · obtain ⟨b', off, rfl, hb0', hb1, hcj⟩ := hE.out j hlt
          have hcj' := (c8.out.cell (p := ⟨b', off + j, none⟩) hb0').trans hcj
          have hi1 : (j : Int) < E.length := by omega
          by_cases ex : E[j] = (b0 : Int)
          · have ex' : (E[j] == (b0 : Int)) = true := by simpa using ex
            by_cases eab : a0 = b0
            · have eab' : ((a0 : Int) != (b0 : Int)) = false := by simp [eab]
              replace ex := Hid.mk ex
              replace eab := Hid.mk eab
              clear hcj
              go_wp2_with fail
              go_roundw
              all_goals first | exact ⟨j + 1, by simp, by omega, trivial⟩ | (simp only [intOf]; omega)
            · have eab' : ((a0 : Int) != (b0 : Int)) = true := by simp; omega
              have h3 := O3.out (ex ▸ List.getElem_mem hlt) eab
              replace ex := Hid.mk ex
              replace eab := Hid.mk eab
              clear hcj
              subst h3
              go_wp2_with fail
              go_roundw
              all_goals first | exact ⟨j + 1, by simp, by omega, trivial⟩ | (simp only [intOf]; omega)
          · have ex' : (E[j] == (b0 : Int)) = false := by simpa using ex
            replace ex := Hid.mk ex
            clear hcj
            go_wp2_with fail
            go_roundw
            all_goals first | exact ⟨j + 1, by simp, by omega, trivial⟩ | (simp only [intOf]; omega)
        · have hi1 : ¬ (j : Int) < E.length := by omega
          cases la with
          | false =>
            go_wp2_with fail
            go_ret
            exact ⟨rfl, c8.out⟩
          | true =>
            cases lc with
            | false =>
              go_wp2_with fail
              go_ret
              exact ⟨rfl, c8.out⟩
            | true =>
              cases ab <;> cases ba <;> cases bc <;> cases ac <;>
              first
              | (exfalso; have := O4.out rfl rfl; cases this; done)
              | (exfalso; have := O5.out rfl rfl rfl; simp at this; done)
              | (go_wp2_with fail
                 go_ret
                 exact ⟨rfl, c8.out⟩)
              | (have e6 := O6.out rfl rfl rfl
                 have e6' : ((a0 : Int) == (b0 : Int)) = true := by simp [e6]
                 replace e6 := Hid.mk e6
                 go_wp2_with fail
                 go_ret
                 exact ⟨rfl, c8.out⟩)
    · go_wp2_with fail
      go_loopw [18] (fun i wr => ∃ j : Nat, i = .int .i64 j ∧ j ≤ E.length ∧ wr = w8) (fun i _ => E.length - (intOf i).toNat)
      case atStart => exact ⟨0, rfl, by omega, rfl⟩
      case round =>
        obtain ⟨j, rfl, hj, rfl⟩ := hrel
        by_cases hlt : j < E.length
        · obtain ⟨b', off, rfl, hb0', hb1, hcj⟩ := hE.out j hlt
          have hcj' := (c8.out.cell (p := ⟨b', off + j, none⟩) hb0').trans hcj
          have hi1 : (j : Int) < E.length := by omega
          by_cases ex : E[j] = (b0 : Int)
          · have ex' : (E[j] == (b0 : Int)) = true := by simpa using ex
            by_cases eab : a0 = b0
            · have eab' : ((a0 : Int) != (b0 : Int)) = false := by simp [eab]
              replace ex := Hid.mk ex
              replace eab := Hid.mk eab
              clear hcj
              go_wp2_with fail
              go_roundw
              all_goals first | exact ⟨j + 1, by simp, by omega, trivial⟩ | (simp only [intOf]; omega)
            · have eab' : ((a0 : Int) != (b0 : Int)) = true := by simp; omega
              have h3 := O3.out (ex ▸ List.getElem_mem hlt) eab
              replace ex := Hid.mk ex
              replace eab := Hid.mk eab
              clear hcj
              exact absurd h3 (by simp)
          · have ex' : (E[j] == (b0 : Int)) = false := by simpa using ex
            replace ex := Hid.mk ex
            clear hcj
            go_wp2_with fail
            go_roundw
            all_goals first | exact ⟨j + 1, by simp, by omega, trivial⟩ | (simp only [intOf]; omega)
        · have hi1 : ¬ (j : Int) < E.length := by omega
          cases la <;>
            (go_wp2_with fail
             go_ret
             exact ⟨rfl, c8.out⟩)
end F
end Go.Proofs.Ytjmknpkmbghgdaa
