import Derived.Test.YthblllanofnmmaaTDocC
/-
  Stage 6, tagmem: the document's memory: its tags.
-/
namespace Go.Proofs.Ythblllanofnmmaa
namespace T
open Go.RowKit

set_option maxRecDepth 10000 in
set_option maxHeartbeats 2000000 in
theorem dTags_any (S : Nat → Prop) (d : Nat) (b : Nat → UInt8) (t : Nat → Option Cp) (tg : Nat → Bool) (cp : Nat → Cp) (w : World) (h : DIn S w d b tg cp) (hr : Rel t tg cp) :
    Calls Try.prog 25 #[.pointer (some ⟨d, 0, none⟩)] w fun x w' => ∃ v, x = .returned v ∧ UOwn w' w.heap.size v (tagsL t 4096) ∧ Below w.heap.size w w' := by
  replace h := Hid.mk h
  replace hr := Hid.mk hr
  go_enter Try.func25, Try.ntmps25
  go_wp2_with fail
  go_loopw [3, 4] (fun l v wr => ∃ k : Nat, v = .int .i64 k ∧ k ≤ 4096 ∧ UOwn wr w.heap.size l (tagsL t k) ∧ Below w.heap.size w wr) (fun _ v _ => 4096 - (intOf v).toNat)
  case atStart => exact ⟨0, rfl, by omega, UOwn.nil _ _, Below.refl _ _⟩
  case round =>
    obtain ⟨k, rfl, hk, hO, hB⟩ := hrel
    obtain ⟨la, lc, rfl, hl⟩ := hO.form
    clear hl
    by_cases hlt : k < 4096
    · have jl : (k : Int) < 4096 := by omega
      have hnx : tagsL t (k + 1) = tagsL t k ++ if plTag (t k) then [k * 16] else [] := rfl
      have hrk := hr.out k
      obtain ⟨kb, kt, kc, hd, _⟩ := (h.out.gr hB).go
      have c1 := hd.c1
      have b0 := (hd.br.at_ k hlt).1
      have hlen := tagsL_len t k
      replace hd := Hid.mk hd
      cases q : tg k with
      | false =>
        rw [q] at b0 hrk
        simp only [Bool.false_eq_true, if_false] at hrk
        rw [hrk] at hnx
        simp only [plTag, Bool.false_eq_true, if_false, List.append_nil] at hnx
        replace hnx := Hid.mk hnx
        replace hO := Hid.mk hO
        replace hB := Hid.mk hB
        replace hlen := Hid.mk hlen
        go_wp2_with fail
        exact ⟨⟨k + 1, by go_num, by omega, by rw [hnx.out]; exact hO.out, hB.out⟩, by simp [intOf]; omega⟩
      | true =>
        rw [q] at b0 hrk
        simp only [if_true] at hrk
        rw [hrk] at hnx
        simp only [plTag, if_true] at hnx
        have m1 : IntKind.i64.wrap (16 * (k : Int)) = 16 * (k : Int) := by rw [IntKind.wrap_i64]; omega
        have m2 : IntKind.u64.wrap (16 * (k : Int)) = 16 * (k : Int) := by rw [IntKind.wrap_u64]; omega
        have ey : ((k * 16 : Nat) : Int) = 16 * (k : Int) := by omega
        replace ey := Hid.mk ey
        replace hnx := Hid.mk hnx
        replace hO := Hid.mk hO
        replace hB := Hid.mk hB
        replace hlen := Hid.mk hlen
        go_wp2_with (at_builtin; refine wpList_append_num rfl (.tmp 16) (.tmp 20) rfl w.heap.size (.slice la (tagsL t k).length lc) (tagsL t k) (k * 16) rfl (hO.out.below ((Below.refl _ _).alloc (Nat.le_refl _) _)) wr.heap.size rfl (by rw [ey.out]; exact At.new _ _ _) (by have := hlen.out; omega) (by have := hB.out.size; simp; omega) ?_)
        intro g cap w2 hO2 hg
        have hB2 := (hB.out.alloc hB.out.size _).trans (Below.of_grown hg (by have := hB.out.size; simp; omega) (fun q hq => (hO.out.block q hq).1))
        replace hB2 := Hid.mk hB2
        replace hO2 := Hid.mk hO2
        clear hg
        go_wp2_with fail
        exact ⟨⟨k + 1, by go_num, by omega, by rw [hnx.out]; exact hO2.out, hB2.out⟩, by simp [intOf]; omega⟩
    · have jl : ¬ (k : Int) < 4096 := by omega
      have : k = 4096 := by omega
      subst this
      replace hO := Hid.mk hO
      replace hB := Hid.mk hB
      go_wp2_with fail
      go_ret
      exact ⟨_, rfl, hO.out, hB.out⟩
end T
end Go.Proofs.Ythblllanofnmmaa


/-
  Stage 6, tagmem: the document's memory: StoreCap (under way).
-/
namespace Go.Proofs.Ythblllanofnmmaa
namespace T
open Go.RowKit

def dsG (tg : Nat → Bool) (addr : Nat) (v : Vl) : Nat → Bool := if granB addr then updG (offG (offG tg addr (addr + 8)) (addr + 8) (addr + 8 + 8)) (addr / 16) v.g else tg
def dsC (cp : Nat → Cp) (addr : Nat) (v : Vl) : Nat → Cp := if granB addr then updC cp (addr / 16) v.c else cp
theorem ds_rel {t : Nat → Option Cp} {tg : Nat → Bool} {cp : Nat → Cp} (h : Rel t tg cp) (addr : Nat) (v : Vl) : Rel (scT t addr v) (dsG tg addr v) (dsC cp addr v) := by
  intro g
  have hg := h g
  cases e : granB addr with
  | false => simp only [scT, dsG, dsC, e, Bool.false_eq_true, if_false]; exact hg
  | true =>
    have hi := granB_in e
    simp only [scT, dsG, dsC, e, if_true]
    by_cases q : g = addr / 16
    · subst q
      cases hv : v.g
      · simp only [updG, updC, if_true, Bool.false_eq_true, if_false]
        unfold offT
        rw [if_pos ⟨by omega, by omega, by omega⟩]
      · simp only [updT, updG, updC, if_true]
    · have o1 : offT t addr (addr + 16) g = t g := by unfold offT; rw [if_neg (by omega)]
      have o2 : offG (offG tg addr (addr + 8)) (addr + 8) (addr + 8 + 8) g = tg g := by
        unfold offG
        rw [if_neg (by omega), if_neg (by omega)]
      have l : (if v.g = true then updT (offT t addr (addr + 16)) (addr / 16) (some v.c) else offT t addr (addr + 16)) g = t g := by
        cases v.g
        · exact o1
        · simp only [if_true, updT, q, if_false]; exact o1
      rw [l, hg]
      simp only [updG, updC, q, if_false, o2]
theorem dStore8 (b : Nat → UInt8) (tg : Nat → Bool) (addr n : Nat) (h : addr + 8 ≤ 65536) : stB b addr 8 n = putB b addr n 8 ∧ stG tg addr 8 = offG tg addr (addr + 8) ∧ ldE addr 8 = 0 := by
  have e : wordB addr 8 = true := by simp [wordB]; omega
  simp [stB, stG, ldE, e]
set_option maxHeartbeats 2000000 in
theorem dStoreCap_any (S : Nat → Prop) (d addr : Nat) (b : Nat → UInt8) (tg : Nat → Bool) (cp : Nat → Cp) (v : Vl) (w : World) (h : DIn S w d b tg cp) (hn : v.n < 18446744073709551616) (hc : 0 ≤ v.c.c ∧ v.c.c < 18446744073709551616) (ha : addr < 18446744073709551616) :
    Calls Try.prog 18 #[.pointer (some ⟨d, 0, none⟩), .int .u64 addr, v.agg] w fun x w' => x = .returned (.int .i64 (lcE addr)) ∧ DIn S w' d (scB b addr v) (dsG tg addr v) (dsC cp addr v) ∧ Kp S w w' := by
  have hI : ∀ W, Calls Try.prog 40 #[.int .u64 addr, .int .u64 16] W fun x w' => x = .returned (.bool (insB addr 16)) ∧ w' = W := fun W => inside_any addr 16 W
  cases e : granB addr with
  | false =>
    simp only [scB, dsG, dsC, lcE, e, Bool.false_eq_true, if_false, Vl.agg]
    replace h := Hid.mk h
    by_cases h2 : addr % 16 = 0
    · have hi : insB addr 16 = false := by have := insB16 addr; rw [e, h2] at this; simpa using this
      rw [hi] at hI
      go_enter Try.func18, Try.ntmps18
      go_wp2_with (refine (hI _).mono ?_; rintro x w1 ⟨rfl, rfl⟩)
      go_ret
      exact ⟨rfl, h.out.gr ((Below.refl _ w).alloc (Nat.le_refl _) _), Kp.of_below ((Below.refl _ w).alloc (Nat.le_refl _) _)⟩
    · have d1 : ((addr : Int) % 16 == 0) = false := by simpa using (by omega : ¬ (addr : Int) % 16 = 0)
      clear h2
      generalize insB addr 16 = q at *
      cases q
      all_goals
        go_enter Try.func18, Try.ntmps18
        go_wp2_with (refine (hI _).mono ?_; rintro x w1 ⟨rfl, rfl⟩)
        go_ret
        exact ⟨rfl, h.out.gr ((Below.refl _ w).alloc (Nat.le_refl _) _), Kp.of_below ((Below.refl _ w).alloc (Nat.le_refl _) _)⟩
  | true =>
    have hg := granB_in e
    have hi : insB addr 16 = true := by simp [insB]; omega
    have d1 : (addr : Int) % 16 = 0 := by omega
    rw [hi] at hI
    have nS : ¬ S w.heap.size := fun q => by have := h.lt _ q; omega
    have hnum : v.num < 18446744073709551616 := by unfold Vl.num; split <;> omega
    have hS1 := fun W (q : DIn S W d b tg cp) => dStore_any S d addr 8 v.num b tg cp W q hnum
    have hS2 := fun W (q : DIn S W d (putB b addr v.num 8) (offG tg addr (addr + 8)) cp) => dStore_any S d (addr + 8) 8 0 _ _ cp W q (by omega)
    obtain ⟨p1, p2, p3⟩ := dStore8 b tg addr v.num (by omega)
    obtain ⟨p4, p5, p6⟩ := dStore8 (putB b addr v.num 8) (offG tg addr (addr + 8)) (addr + 8) 0 (by omega)
    rw [p1, p2, p3] at hS1
    rw [p4, p5, p6] at hS2
    simp only [scB, dsG, dsC, lcE, e, if_true]
    generalize putB (putB b addr v.num 8) (addr + 8) 0 8 = b2 at *
    generalize offG (offG tg addr (addr + 8)) (addr + 8) (addr + 8 + 8) = t2 at *
    generalize putB b addr v.num 8 = b1 at *
    generalize offG tg addr (addr + 8) = t1 at *
    have m1 : IntKind.u64.wrap ((addr : Int) + 8) = (addr : Int) + 8 := by rw [IntKind.wrap_u64]; omega
    rw [Int.natCast_add] at hS2
    have hv : ((v.num : Nat) : Int) = if v.g then v.c.c else v.n := by unfold Vl.num; split <;> omega
    have h0 := fun o => h.gr ((Below.refl _ w).alloc (Nat.le_refl _) o)
    replace h := Hid.mk h
    replace hS1 := Hid.mk hS1
    replace hS2 := Hid.mk hS2
    replace h0 := Hid.mk h0
    replace nS := Hid.mk nS
    clear p1 p2 p3 p4 p5 p6
    cases q : v.g
    all_goals
      rw [q] at hv
      simp only [Bool.false_eq_true, if_false, if_true] at hv
      simp only [hv] at hS1
      simp only [Vl.agg, q]
      go_enter Try.func18, Try.ntmps18
      go_wp2_with (go_at_call 40; refine (hI _).mono ?_; rintro x w1 ⟨rfl, rfl⟩)
      refine (hS1.out _ (h0.out _)).mono ?_
      rintro x w2 ⟨rfl, h2, k2⟩
      have hS22 := hS2.out _ h2
      replace h2 := Hid.mk h2
      replace k2 := Hid.mk k2
      go_wp2_with fail
      refine hS22.mono ?_
      rintro x w3 ⟨rfl, h3, k3⟩
      have k4 := k2.out.trans k3 (fun _ q => .inl q)
      have A3 := at_kp (At.new w _ _) k4 nS.out
      obtain ⟨kb, kt, kc, hd, hSi⟩ := h3.go
      have c1 := hd.c1
      have c2 := hd.c2
      obtain ⟨b0, bf⟩ := hd.br.at_ (addr / 16) (by omega)
      obtain ⟨r0, r1, r2, r3, r4⟩ := hd.cr.at_ (addr / 16) (by omega)
      have rf := hd.cr.fr
      have y0 : w3.cell? ⟨w.heap.size, 0, none⟩ = some (.bool v.g) := by rw [q]; exact A3.2.1 0
      rw [q] at y0
      have y2 : w3.cell? ⟨w.heap.size, 2, none⟩ = some (.int .u64 v.c.b) := A3.2.1 2
      have y3 : w3.cell? ⟨w.heap.size, 3, none⟩ = some (.int .u64 v.c.e) := A3.2.1 3
      have y4 : w3.cell? ⟨w.heap.size, 4, none⟩ = some (.int .u64 v.c.c) := A3.2.1 4
      have y5 : w3.cell? ⟨w.heap.size, 5, none⟩ = some (.int .u8 v.c.p) := A3.2.1 5
      have y6 : w3.cell? ⟨w.heap.size, 6, none⟩ = some (.int .i64 v.c.s) := A3.2.1 6
      have hlt3 := A3.1
      have n2 := hd.ne.2.2.2.2.2
      have n3 : ¬ kt = d := fun r => hd.ne.2.1 r.symm
      have n4 : ¬ kc = d := fun r => hd.ne.2.2.1 r.symm
      have n5 : ¬ kt = w.heap.size := fun r => nS.out (r ▸ (hSi kt).2 (.inr (.inr (.inl rfl))))
      have n6 : ¬ kc = w.heap.size := fun r => nS.out (r ▸ (hSi kc).2 (.inr (.inr (.inr rfl))))
      have hF := (hd.setG (addr / 16) v.g (by omega)).setC (addr / 16) v.c (by omega)
      have hFd := (hd.setG (addr / 16) v.g (by omega))
      rw [q] at hF hFd
      have g1 : (0 : Int) ≤ (addr : Int) / 16 := by omega
      have g2 : (addr : Int) / 16 < 4096 := by omega
      replace hd := Hid.mk hd
      replace hSi := Hid.mk hSi
      replace k4 := Hid.mk k4
      replace A3 := Hid.mk A3
      replace h3 := Hid.mk h3
      replace k3 := Hid.mk k3
      have HD : DIn S _ d b2 _ _ := ⟨kb, kt, kc, hF, hSi.out⟩
      have HK := (((Kp.alloc S w (.cells #[.bool v.g, .int .u64 v.n, .int .u64 v.c.b, .int .u64 v.c.e, .int .u64 v.c.c, .int .u8 v.c.p, .int .i64 v.c.s] 47)).trans (by rw [q]; exact k4.out) (fun _ q => .inl q)).trans (Kp.set (S := S) w3 ⟨kt, addr / 16, none⟩ (.bool v.g) ((hSi.out kt).2 (.inr (.inr (.inl rfl))))) (fun _ q => .inl q)).trans (set5_kp S _ kc (addr / 16 * 5) v.c ((hSi.out kc).2 (.inr (.inr (.inr rfl))))) (fun _ q => .inl q)
      rw [q] at HK
      simp only [set5, Nat.add_assoc, Nat.reduceAdd] at HD HK
      replace HD := Hid.mk HD
      replace HK := Hid.mk HK
      clear hF hFd
      clear hS22
      go_wp2_with fail
      go_region
      all_goals
        go_wp2_with fail
        go_region
        all_goals
          go_wp2_with fail
          go_ret
          refine ⟨rfl, HD.out.gr ?_, HK.out.trans (Kp.of_below (S := S) ?_) (fun _ q => .inl q)⟩
          · (repeat (with_reducible refine Below.drew ?_)); with_reducible exact Below.refl _ _
          · (repeat (with_reducible refine Below.drew ?_)); with_reducible exact Below.refl _ _
end T
end Go.Proofs.Ythblllanofnmmaa
