/-
  Stage 6, tagmem: the document's memory: loads, stores, bytes.
-/
import Derived.Test.YtbmkefpgfifigaaTRows
import Derived.Laws.IdiomStrings
namespace Go.Proofs.Ytbmkefpgfifigaa
namespace T
open Go.RowKit

/-- A row of all bytes. -/
structure YRow (w : World) (k : Nat) (b : Nat → UInt8) : Prop where
  lt : k < w.heap.size
  at_ : ∀ x, x < 65536 → w.cell? ⟨k, x, none⟩ = some (bv (b x)) ∧ w.frozen? ⟨k, x, none⟩ = false
theorem YRow.block {w w1 : World} {k : Nat} {b : Nat → UInt8} (h : YRow w k b) (hs : w.heap.size ≤ w1.heap.size) (hb : w1.heap[k]? = w.heap[k]?) : YRow w1 k b :=
  ⟨Nat.lt_of_lt_of_le h.lt hs, fun g hg => ⟨(cell_of_block hb g).trans (h.at_ g hg).1, (frozen_of_block hb g).trans (h.at_ g hg).2⟩⟩
theorem YRow.set {w : World} {k : Nat} {b : Nat → UInt8} (h : YRow w k b) (g : Nat) (v : UInt8) (hg : g < 65536) : YRow (w.setCell ⟨k, g, none⟩ (bv v)) k (upd b g v) := by
  refine ⟨by simpa using h.lt, fun x hx => ⟨?_, by simpa using (h.at_ x hx).2⟩⟩
  by_cases q : x = g
  · subst q
    rw [css (h.at_ x hx).1]; simp [upd]
  · rw [cso (fun _ r => q r.symm), (h.at_ x hx).1]; simp [upd, q]
/-- The document's memory: its box, its three rows. -/
structure Dm (w : World) (d kb kt kc : Nat) (b : Nat → UInt8) (tg : Nat → Bool) (cp : Nat → Cp) : Prop where
  lt : d < w.heap.size
  c0 : w.cell? ⟨d, 0, none⟩ = some (.slice (some ⟨kb, 0, none⟩) 65536 65536)
  c1 : w.cell? ⟨d, 1, none⟩ = some (.slice (some ⟨kt, 0, none⟩) 4096 4096)
  c2 : w.cell? ⟨d, 2, none⟩ = some (.slice (some ⟨kc, 0, none⟩) 4096 4096)
  yr : YRow w kb b
  br : BRow w kt tg
  cr : CRow w kc cp
  ne : d ≠ kb ∧ d ≠ kt ∧ d ≠ kc ∧ kb ≠ kt ∧ kb ≠ kc ∧ kt ≠ kc
structure DIn (S : Nat → Prop) (w : World) (d : Nat) (b : Nat → UInt8) (tg : Nat → Bool) (cp : Nat → Cp) : Prop where
  go : ∃ kb kt kc, Dm w d kb kt kc b tg cp ∧ ∀ k, S k ↔ k = d ∨ k = kb ∨ k = kt ∨ k = kc
theorem DIn.lt {S : Nat → Prop} {w : World} {d : Nat} {b : Nat → UInt8} {tg : Nat → Bool} {cp : Nat → Cp} (h : DIn S w d b tg cp) : ∀ k, S k → k < w.heap.size := by
  obtain ⟨kb, kt, kc, h1, h2⟩ := h.go
  intro k q
  rcases (h2 k).1 q with r | r | r | r
  · subst r; exact h1.lt
  · subst r; exact h1.yr.lt
  · subst r; exact h1.br.lt
  · subst r; exact h1.cr.lt
theorem DIn.keep {S S1 : Nat → Prop} {w w' : World} {d : Nat} {b : Nat → UInt8} {tg : Nat → Bool} {cp : Nat → Cp} (h : DIn S w d b tg cp) (hk : Kp S1 w w') (hd : ∀ k, S k → ¬ S1 k) : DIn S w' d b tg cp := by
  have hl := h.lt
  obtain ⟨kb, kt, kc, h1, h2⟩ := h.go
  have hb : ∀ k, S k → w'.heap[k]? = w.heap[k]? := fun k q => hk.block k (hl k q) (hd k q)
  have e0 := hb d ((h2 d).2 (.inl rfl))
  exact ⟨kb, kt, kc, ⟨Nat.lt_of_lt_of_le h1.lt hk.size, (cell_of_block e0 0).trans h1.c0, (cell_of_block e0 1).trans h1.c1, (cell_of_block e0 2).trans h1.c2, h1.yr.block hk.size (hb kb ((h2 kb).2 (.inr (.inl rfl)))), h1.br.block hk.size (hb kt ((h2 kt).2 (.inr (.inr (.inl rfl))))), h1.cr.block hk.size (hb kc ((h2 kc).2 (.inr (.inr (.inr rfl))))), h1.ne⟩, h2⟩
theorem DIn.gr {S : Nat → Prop} {w w' : World} {d : Nat} {b : Nat → UInt8} {tg : Nat → Bool} {cp : Nat → Cp} (h : DIn S w d b tg cp) (hb : Below w.heap.size w w') : DIn S w' d b tg cp := h.keep (S1 := fun _ => False) (Kp.of_below hb) (fun _ _ q => q)
theorem Dm.setY {w : World} {d kb kt kc : Nat} {b : Nat → UInt8} {tg : Nat → Bool} {cp : Nat → Cp} (h : Dm w d kb kt kc b tg cp) (g : Nat) (v : UInt8) (hg : g < 65536) : Dm (w.setCell ⟨kb, g, none⟩ (bv v)) d kb kt kc (upd b g v) tg cp := by
  obtain ⟨n1, n2, n3, n4, n5, n6⟩ := h.ne
  have hk := Kp.set (S := fun k => k = kb) w ⟨kb, g, none⟩ (bv v) rfl
  exact ⟨by simpa using h.lt, (cso (fun q => absurd q.symm n1)).trans h.c0, (cso (fun q => absurd q.symm n1)).trans h.c1, (cso (fun q => absurd q.symm n1)).trans h.c2, h.yr.set g v hg, h.br.block hk.size (hk.block _ h.br.lt (fun q => n4 q.symm)), h.cr.block hk.size (hk.block _ h.cr.lt (fun q => n5 q.symm)), h.ne⟩
theorem Dm.setG {w : World} {d kb kt kc : Nat} {b : Nat → UInt8} {tg : Nat → Bool} {cp : Nat → Cp} (h : Dm w d kb kt kc b tg cp) (g : Nat) (v : Bool) (hg : g < 4096) : Dm (w.setCell ⟨kt, g, none⟩ (.bool v)) d kb kt kc b (updG tg g v) cp := by
  obtain ⟨n1, n2, n3, n4, n5, n6⟩ := h.ne
  have hk := Kp.set (S := fun k => k = kt) w ⟨kt, g, none⟩ (.bool v) rfl
  exact ⟨by simpa using h.lt, (cso (fun q => absurd q.symm n2)).trans h.c0, (cso (fun q => absurd q.symm n2)).trans h.c1, (cso (fun q => absurd q.symm n2)).trans h.c2, h.yr.block hk.size (hk.block _ h.yr.lt (fun q => n4 q)), h.br.set g v hg, h.cr.block hk.size (hk.block _ h.cr.lt (fun q => n6 q.symm)), h.ne⟩
theorem Dm.setC {w : World} {d kb kt kc : Nat} {b : Nat → UInt8} {tg : Nat → Bool} {cp : Nat → Cp} (h : Dm w d kb kt kc b tg cp) (g : Nat) (c : Cp) (hg : g < 4096) : Dm (set5 w kc (g * 5) c) d kb kt kc b tg (updC cp g c) := by
  obtain ⟨n1, n2, n3, n4, n5, n6⟩ := h.ne
  have hk := set5_kp (fun k => k = kc) w kc (g * 5) c rfl
  have hc := hk.block d h.lt (fun q => n3 q)
  exact ⟨by rw [set5_size]; exact h.lt, (cell_of_block hc 0).trans h.c0, (cell_of_block hc 1).trans h.c1, (cell_of_block hc 2).trans h.c2, h.yr.block hk.size (hk.block _ h.yr.lt (fun q => n5 q)), h.br.block hk.size (hk.block _ h.br.lt (fun q => n6 q)), h.cr.set g c hg, h.ne⟩
def offG (tg : Nat → Bool) (addr e : Nat) : Nat → Bool := fun g => if addr < e ∧ addr / 16 ≤ g ∧ g * 16 < e then false else tg g
theorem offG_zero (tg : Nat → Bool) (addr : Nat) : offG tg addr (addr + 0) = tg := by
  funext g; simp [offG]
theorem offG_step (tg : Nat → Bool) (addr j : Nat) : updG (offG tg addr (addr + j)) ((addr + j) / 16) false = offG tg addr (addr + (j + 1)) := by
  funext g
  unfold updG offG
  by_cases h : g = (addr + j) / 16
  · rw [if_pos h, if_pos (by omega)]
  · rw [if_neg h]
    by_cases q : addr < addr + j ∧ addr / 16 ≤ g ∧ g * 16 < addr + j
    · rw [if_pos q, if_pos (by omega)]
    · rw [if_neg q, if_neg (by omega)]
def insB (addr size : Nat) : Bool := decide (addr < 65536) && decide (addr + size ≤ 65536)
set_option maxHeartbeats 1000000 in
theorem inside_any (addr size : Nat) (w : World) :
    Calls Try.prog 50 #[.int .u64 addr, .int .u64 size] w fun x w' => x = .returned (.bool (insB addr size)) ∧ w' = w := by
  by_cases h1 : addr < 65536
  · have d1 : (addr : Int) < 65536 := by omega
    have m1 : IntKind.u64.wrap (65536 - (addr : Int)) = 65536 - (addr : Int) := by rw [IntKind.wrap_u64]; omega
    by_cases h2 : addr + size ≤ 65536
    · have : insB addr size = true := by simp [insB]; omega
      rw [this]
      have d2 : decide ((size : Int) ≤ 65536 - (addr : Int)) = true := by simp; omega
      clear h1 h2
      go_enter Try.func50, Try.ntmps50
      go_wp2_with fail
      go_ret
      exact ⟨rfl, rfl⟩
    · have : insB addr size = false := by simp [insB]; omega
      rw [this]
      have d2 : decide ((size : Int) ≤ 65536 - (addr : Int)) = false := by simp; omega
      clear h1 h2
      go_enter Try.func50, Try.ntmps50
      go_wp2_with fail
      go_ret
      exact ⟨rfl, rfl⟩
  · have d1 : decide ((addr : Int) < 65536) = false := by simp; omega
    have : insB addr size = false := by simp [insB, h1]
    rw [this]
    clear h1
    obtain ⟨Y, hY⟩ : ∃ Y, IntKind.u64.wrap (65536 - (addr : Int)) = Y := ⟨_, rfl⟩
    go_enter Try.func50, Try.ntmps50
    go_wp2_with fail
    go_ret
    exact ⟨rfl, rfl⟩
set_option maxHeartbeats 1000000 in
theorem may_any (addr size : Nat) (w : World) :
    Calls Try.prog 38 #[.int .u64 addr, .int .u64 size] w fun x w' => x = .returned (.bool (wordB addr size)) ∧ w' = w := by
  have hI := inside_any addr size
  rcases (by omega : size = 1 ∨ size = 8 ∨ (size ≠ 1 ∧ size ≠ 8)) with h1 | h1 | h1
  · subst h1
    have e : wordB addr 1 = insB addr 1 := by
      by_cases q : addr + 1 ≤ 65536
      · have : addr < 65536 := by omega
        simp [wordB, insB, this]
      · simp [wordB, insB, q]
    rw [e]
    generalize insB addr 1 = q at *
    cases q
    all_goals
      go_enter Try.func38, Try.ntmps38
      go_wp2_with (refine (hI _).mono ?_; rintro x w1 ⟨rfl, rfl⟩)
      go_ret
      exact ⟨rfl, rfl⟩
  · subst h1
    have e : wordB addr 8 = insB addr 8 := by
      by_cases q : addr + 8 ≤ 65536
      · have : addr < 65536 := by omega
        simp [wordB, insB, this]
      · simp [wordB, insB, q]
    rw [e]
    generalize insB addr 8 = q at *
    cases q
    all_goals
      go_enter Try.func38, Try.ntmps38
      go_wp2_with (refine (hI _).mono ?_; rintro x w1 ⟨rfl, rfl⟩)
      go_ret
      exact ⟨rfl, rfl⟩
  · have e : wordB addr size = false := by simp [wordB, h1.1, h1.2]
    rw [e]
    have d1 : ((size : Int) == 1) = false := by simpa using (by omega : ¬ (size : Int) = 1)
    have d8 : ((size : Int) == 8) = false := by simpa using (by omega : ¬ (size : Int) = 8)
    clear h1
    generalize insB addr size = q at *
    cases q
    all_goals
      go_enter Try.func38, Try.ntmps38
      go_wp2_with (refine (hI _).mono ?_; rintro x w1 ⟨rfl, rfl⟩)
      go_ret
      exact ⟨rfl, rfl⟩
theorem leB_split (b : Nat → UInt8) (addr j n m : Nat) (h : n * 2 ^ (8 * (j + 1)) + leB b addr (j + 1) = m) : (256 * n + (b (addr + j)).toNat) * 2 ^ (8 * j) + leB b addr j = m := by
  have e : 2 ^ (8 * (j + 1)) = 256 * 2 ^ (8 * j) := by rw [show 8 * (j + 1) = 8 + 8 * j by omega, Nat.pow_add]
  rw [leB, e] at h
  rw [← h, Nat.add_mul, ← Nat.mul_assoc, Nat.mul_comm n 256]
  omega
set_option maxHeartbeats 1000000 in
theorem dLoad_any (S : Nat → Prop) (d addr size : Nat) (b : Nat → UInt8) (tg : Nat → Bool) (cp : Nat → Cp) (w : World) (h : DIn S w d b tg cp) :
    Calls Try.prog 18 #[.pointer (some ⟨d, 0, none⟩), .int .u64 addr, .int .u64 size] w fun x w' => x = .returned (.tuple #[.int .u64 (ldV b addr size), .int .i64 (ldE addr size)]) ∧ Below w.heap.size w w' := by
  have hM := may_any addr size
  cases e : wordB addr size with
  | false =>
    simp only [e] at hM
    simp only [ldV, ldE, e, Bool.false_eq_true, if_false]
    replace h := Hid.mk h
    go_enter Try.func18, Try.ntmps18
    go_wp2_with (refine (hM _).mono ?_; rintro x w1 ⟨rfl, rfl⟩)
    go_ret2
    exact ⟨rfl, Below.refl _ _⟩
  | true =>
    simp only [e] at hM
    have hi := wordB_in e
    have hs0 : 0 < size := by simp [wordB] at e; omega
    simp only [ldV, ldE, e, if_true]
    have hlt := leB_lt b addr size
    have hp : 2 ^ (8 * size) ≤ 2 ^ 64 := Nat.pow_le_pow_right (by omega) (by omega)
    generalize hm : leB b addr size = m at *
    replace h := Hid.mk h
    replace hm := Hid.mk hm
    have m1 : IntKind.i64.wrap (size : Int) = size := by rw [IntKind.wrap_i64]; omega
    have m2 : IntKind.i64.wrap ((size : Int) - 1) = (size : Int) - 1 := by rw [IntKind.wrap_i64]; omega
    have m3 : IntKind.i64.wrap (addr : Int) = addr := by rw [IntKind.wrap_i64]; omega
    go_enter Try.func18, Try.ntmps18
    go_wp2_with (refine (hM _).mono ?_; rintro x w1 ⟨rfl, rfl⟩)
    go_loopw [9, 10] (fun v i wr => ∃ j n : Nat, v = .int .u64 n ∧ i = .int .i64 ((j : Int) - 1) ∧ j ≤ size ∧ n * 2 ^ (8 * j) + leB b addr j = m ∧ wr = w1) (fun _ i _ => (intOf i + 1).toNat)
    case atStart => exact ⟨size, 0, rfl, rfl, by omega, by rw [hm.out]; omega, rfl⟩
    case round =>
      obtain ⟨j, n, rfl, rfl, hj, hn, rfl⟩ := hrel
      cases j with
      | zero =>
        have hn' : n = m := by simpa [leB] using hn
        subst hn'
        have e0 : ((0 : Nat) : Int) - 1 = -1 := by decide
        rw [e0]
        clear hn
        go_wp2_with fail
        go_ret2
        exact ⟨rfl, Below.refl _ _⟩
      | succ j =>
        have e0 : ((j + 1 : Nat) : Int) - 1 = j := by omega
        rw [e0]
        have hs := leB_split b addr j n m hn
        obtain ⟨kb, kt, kc, hd, _⟩ := h.out.go
        have c0 := hd.c0
        have y0 := (hd.yr.at_ (addr + j) (by omega)).1
        have hb := (b (addr + j)).toNat_lt
        unfold bv at y0
        generalize (b (addr + j)).toNat = q at *
        have hbig : 256 * n + q < 18446744073709551616 := by
          have h1 : (256 * n + q) * 1 ≤ (256 * n + q) * 2 ^ (8 * j) := Nat.mul_le_mul_left _ (Nat.pos_of_ne_zero (by simp))
          omega
        have m4 : IntKind.u64.wrap (256 * (n : Int)) = 256 * n := by rw [IntKind.wrap_u64]; omega
        have m5 : IntKind.i64.wrap ((addr : Int) + j) = (addr : Int) + j := by rw [IntKind.wrap_i64]; omega
        have m6 : IntKind.u64.wrap (q : Int) = q := by rw [IntKind.wrap_u64]; omega
        have m7 : IntKind.u64.wrap (256 * (n : Int) + q) = 256 * n + q := by rw [IntKind.wrap_u64]; omega
        have m8 : IntKind.i64.wrap ((j : Int) - 1) = (j : Int) - 1 := by rw [IntKind.wrap_i64]; omega
        have g1 : (0 : Int) ≤ (addr : Int) + j := by omega
        have g2 : (addr : Int) + j < 65536 := by omega
        replace hd := Hid.mk hd
        replace hs := Hid.mk hs
        replace hn := Hid.mk hn
        go_wp2_with fail
        exact ⟨⟨j, 256 * n + q, by go_num, rfl, by omega, hs.out, trivial⟩, by simp [intOf]⟩
theorem YRow.new (w : World) (t : TypeId) (cs : Array Value) (h : ∀ x, x < 65536 → cs[x]? = some (.int .u8 0)) : YRow (w.alloc (.cells cs t)) w.heap.size (fun _ => 0) := by
  have hA := At.new w cs t
  exact ⟨hA.1, fun g hg => ⟨(hA.2.1 g).trans (h g hg), hA.2.2 g⟩⟩
def stG (tg : Nat → Bool) (addr size : Nat) : Nat → Bool := if wordB addr size then offG tg addr (addr + size) else tg
set_option maxHeartbeats 1000000 in
theorem dStore_any (S : Nat → Prop) (d addr size n : Nat) (b : Nat → UInt8) (tg : Nat → Bool) (cp : Nat → Cp) (w : World) (h : DIn S w d b tg cp) (hn : n < 18446744073709551616) :
    Calls Try.prog 20 #[.pointer (some ⟨d, 0, none⟩), .int .u64 addr, .int .u64 size, .int .u64 n] w fun x w' => x = .returned (.int .i64 (ldE addr size)) ∧ DIn S w' d (stB b addr size n) (stG tg addr size) cp ∧ Kp S w w' := by
  have hM := may_any addr size
  cases e : wordB addr size with
  | false =>
    simp only [e] at hM
    simp only [stB, stG, ldE, e, Bool.false_eq_true, if_false]
    replace h := Hid.mk h
    go_enter Try.func20, Try.ntmps20
    go_wp2_with (refine (hM _).mono ?_; rintro x w1 ⟨rfl, rfl⟩)
    go_ret
    exact ⟨rfl, h.out, Kp.refl _ _⟩
  | true =>
    simp only [e] at hM
    have hi := wordB_in e
    simp only [stB, stG, ldE, e, if_true]
    obtain ⟨kb, kt, kc, hd, hSi⟩ := h.go
    have m1 : IntKind.i64.wrap (size : Int) = size := by rw [IntKind.wrap_i64]; omega
    have m3 : IntKind.i64.wrap (addr : Int) = addr := by rw [IntKind.wrap_i64]; omega
    have hne := hd.ne
    replace h := Hid.mk h
    replace hd := Hid.mk hd
    replace hSi := Hid.mk hSi
    replace hne := Hid.mk hne
    go_enter Try.func20, Try.ntmps20
    go_wp2_with (refine (hM _).mono ?_; rintro x w1 ⟨rfl, rfl⟩)
    go_loopw [3, 10] (fun v i wr => ∃ j : Nat, v = .int .u64 ((n / 2 ^ (8 * j) : Nat) : Int) ∧ i = .int .i64 j ∧ j ≤ size ∧ Dm wr d kb kt kc (putB b addr n j) (offG tg addr (addr + j)) cp ∧ Kp S w1 wr) (fun _ i _ => size - (intOf i).toNat)
    case atStart => exact ⟨0, by simp, rfl, by omega, by rw [offG_zero]; exact hd.out, Kp.refl _ _⟩
    case round =>
      obtain ⟨j, rfl, rfl, hj, hD, hK⟩ := hrel
      by_cases hlt : j < size
      · have jl : (j : Int) < size := by omega
        have hf := (hD.setY (addr + j) (UInt8.ofNat (n / 2 ^ (8 * j) % 256)) (by omega)).setG ((addr + j) / 16) false (by omega)
        rw [offG_step] at hf
        have hp : upd (putB b addr n j) (addr + j) (UInt8.ofNat (n / 2 ^ (8 * j) % 256)) = putB b addr n (j + 1) := rfl
        rw [hp] at hf
        have e1 : bv (UInt8.ofNat (n / 2 ^ (8 * j) % 256)) = .int .u8 (((n / 2 ^ (8 * j) : Nat) : Int) % 256) := by
          have : n / 2 ^ (8 * j) % 256 % 256 = n / 2 ^ (8 * j) % 256 := by omega
          simp [bv, UInt8.toNat_ofNat', this]
        rw [e1] at hf
        have e2 : n / 2 ^ (8 * (j + 1)) = n / 2 ^ (8 * j) / 256 := by
          rw [Nat.div_div_eq_div_mul, show 8 * (j + 1) = 8 * j + 8 by omega, Nat.pow_add]
        have hK2 : Kp S w1 ((wr.setCell ⟨kb, addr + j, none⟩ (.int .u8 (((n / 2 ^ (8 * j) : Nat) : Int) % 256))).setCell ⟨kt, (addr + j) / 16, none⟩ (.bool false)) :=
          (hK.trans (Kp.set (S := S) _ ⟨kb, _, none⟩ _ ((hSi.out kb).2 (.inr (.inl rfl)))) (fun _ q => .inl q)).trans (Kp.set (S := S) _ ⟨kt, _, none⟩ _ ((hSi.out kt).2 (.inr (.inr (.inl rfl))))) (fun _ q => .inl q)
        have c0 := hD.c0
        have c1 := hD.c1
        obtain ⟨y0, yf⟩ := hD.yr.at_ (addr + j) (by omega)
        obtain ⟨b0, bf⟩ := hD.br.at_ ((addr + j) / 16) (by omega)
        unfold bv at y0
        obtain ⟨n1, n2, n3, n4, n5, n6⟩ := hne.out
        have n1' : ¬ kb = d := fun q => n1 q.symm
        have n4' : ¬ kb = kt := n4
        have m5 : IntKind.i64.wrap ((addr : Int) + j) = (addr : Int) + j := by rw [IntKind.wrap_i64]; omega
        have g1 : (0 : Int) ≤ (addr : Int) + j := by omega
        have g2 : (addr : Int) + j < 65536 := by omega
        have hbd : n / 2 ^ (8 * j) < 18446744073709551616 := Nat.lt_of_le_of_lt (Nat.div_le_self _ _) hn
        generalize hq : n / 2 ^ (8 * j) = q at *
        replace hf := Hid.mk hf
        replace hK2 := Hid.mk hK2
        replace hD := Hid.mk hD
        replace hK := Hid.mk hK
        replace e2 := Hid.mk e2
        clear e1 hp n1 n2 n3 n4 n5 n6 hq
        go_wp2_with fail
        exact ⟨⟨j + 1, by rw [e2.out]; go_num, by go_num, by omega, hf.out, hK2.out⟩, by simp [intOf]; omega⟩
      · have jl : ¬ (j : Int) < size := by omega
        have : j = size := by omega
        subst this
        replace hD := Hid.mk hD
        replace hK := Hid.mk hK
        go_wp2_with fail
        go_ret
        exact ⟨rfl, ⟨kb, kt, kc, hD.out, hSi.out⟩, hK.out⟩
end T
end Go.Proofs.Ytbmkefpgfifigaa
