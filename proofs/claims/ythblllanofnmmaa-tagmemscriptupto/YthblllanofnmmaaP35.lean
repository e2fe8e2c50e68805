import Derived.Test.YthblllanofnmmaaP24
/-
  Stage 6, tagmem: what is written is read; plain. And the memories that the statements begin with.
-/
namespace Go.Proofs.Ythblllanofnmmaa
namespace T
open Go.RowKit

def runB (L : List Wr) : Nat → UInt8 := L.foldl wrB fun _ => 0
def runT (L : List Wr) : Nat → Option Cp := L.foldl wrT fun _ => none
theorem runB_snoc (L : List Wr) (i : Nat) (h : i < L.length) : wrB (runB (L.take i)) L[i] = runB (L.take (i + 1)) := by
  rw [List.take_succ_eq_append_getElem h]; unfold runB; rw [List.foldl_append]; rfl
theorem runT_snoc (L : List Wr) (i : Nat) (h : i < L.length) : wrT (runT (L.take i)) L[i] = runT (L.take (i + 1)) := by
  rw [List.take_succ_eq_append_getElem h]; unfold runT; rw [List.foldl_append]; rfl
theorem putB_other (b : Nat → UInt8) (addr n k x : Nat) (h : x < addr ∨ addr + k ≤ x) : putB b addr n k x = b x := by
  induction k with
  | zero => rfl
  | succ k ih =>
    rw [putB, upd, if_neg (by omega)]
    exact ih (by omega)
theorem leB_ext (b b' : Nat → UInt8) (addr k : Nat) (h : ∀ x, addr ≤ x → x < addr + k → b x = b' x) : leB b addr k = leB b' addr k := by
  induction k with
  | zero => rfl
  | succ k ih => rw [leB, leB, ih (fun x h1 h2 => h x h1 (by omega)), h _ (by omega) (by omega)]
theorem leB_putB (b : Nat → UInt8) (addr n k : Nat) : leB (putB b addr n k) addr k = n % 2 ^ (8 * k) := by
  induction k with
  | zero => simp [leB, Nat.mod_one]
  | succ k ih =>
    have e1 : leB (putB b addr n (k + 1)) addr k = leB (putB b addr n k) addr k := leB_ext _ _ _ _ (fun x h1 h2 => by rw [putB, upd, if_neg (by omega)])
    have e2 : putB b addr n (k + 1) (addr + k) = UInt8.ofNat (n / 2 ^ (8 * k) % 256) := by rw [putB, upd, if_pos rfl]
    rw [leB, e1, ih, e2]
    have e3 : (UInt8.ofNat (n / 2 ^ (8 * k) % 256)).toNat = n / 2 ^ (8 * k) % 256 := by
      rw [UInt8.toNat_ofNat']; omega
    have e4 : 2 ^ (8 * (k + 1)) = 2 ^ (8 * k) * 256 := by rw [show 8 * (k + 1) = 8 * k + 8 by omega, Nat.pow_add]
    rw [e3, e4, Nat.mod_mul, Nat.mul_comm (2 ^ (8 * k))]
/-- All bytes, as a text. -/
def allB (b : Nat → UInt8) : ByteArray := ⟨(rowB b 0 65536).toArray⟩
theorem allB_size (b : Nat → UInt8) : (allB b).size = 65536 := by simp [allB, ByteArray.size, rowB_len]
theorem allB_part (b b' : Nat → UInt8) (i j : Nat) (h : ∀ x, i ≤ x → x < j → b x = b' x) : (allB b).extract i j = (allB b').extract i j := by
  unfold allB
  apply ByteArray.ext
  simp only [ByteArray.data_extract]
  apply Array.ext_getElem?
  intro k
  have z1 : (rowB b 0 65536).toArray.size = 65536 := by simp [rowB_len]
  have z2 : (rowB b' 0 65536).toArray.size = 65536 := by simp [rowB_len]
  rw [Array.getElem?_extract, Array.getElem?_extract, z1, z2]
  split
  · rename_i q
    simp only [List.getElem?_toArray, rowB, List.getElem?_map, Nat.zero_add]
    by_cases hk : i + k < 65536
    · rw [List.getElem?_range hk, Option.map_some, Option.map_some, h _ (by omega) (by omega)]
    · omega
  · rfl
theorem tgBytes_all (S : Nat → Prop) (a : Nat) (b : Nat → UInt8) (t : Nat → Option Cp) (w : World) (h : TgIn S w a b t) :
    Calls Try.prog 27 #[.pointer (some ⟨a, 0, none⟩)] w fun x w' => x = .returned (.string (allB b)) ∧ Below w.heap.size w w' := tgBytes_any S a b t w h
/-- The two memories of the statements, behind so many writes. -/
structure Ld (W0 W : World) (a f : Nat) (L : List Wr) (i : Nat) : Prop where
  go : ∃ S, Two S W a f (runB (L.take i)) (runB (L.take i)) (runT (L.take i)) ∧ (∀ k, S k → W0.heap.size ≤ k) ∧ Below W0.heap.size W0 W
theorem Ld.begin {w w1 w2 : World} {F : Nat → Prop} (L : List Wr) (h1 : TgIn (fun k => k = w.heap.size + 1) w1 (w.heap.size + 1) (fun _ => 0) (fun _ => none)) (hb1 : Below w.heap.size w w1) (h2 : FlIn F w2 w1.heap.size (fun _ => 0)) (hF : ∀ k, F k → w1.heap.size ≤ k) (hb2 : Below w1.heap.size w1 w2) :
    Ld w w2 (w.heap.size + 1) w1.heap.size L 0 := by
  have hs := h1.lt _ rfl
  exact ⟨fun k => k = w.heap.size + 1 ∨ F k, ⟨_, F, h1.gr hb2, h2, fun k q r => by have := hF k r; omega, fun k => Iff.rfl⟩, fun k q => by
    rcases q with q | q
    · omega
    · have := hF k q; have := hb1.size; omega, hb1.trans (hb2.mono hb1.size)⟩
theorem Ld.below {W0 W : World} {a f : Nat} {L : List Wr} {i : Nat} (h : Ld W0 W a f L i) : Below W0.heap.size W0 W := by
  obtain ⟨S, _, _, hb⟩ := h.go
  exact hb
theorem Ld.gr {W0 W W1 : World} {a f : Nat} {L : List Wr} {i : Nat} (h : Ld W0 W a f L i) (hb : Below W.heap.size W W1) : Ld W0 W1 a f L i := by
  obtain ⟨S, h1, h2, h3⟩ := h.go
  exact ⟨S, h1.gr hb, h2, h3.trans (hb.mono h3.size)⟩
theorem Ld.tg {W0 W : World} {a f : Nat} {L : List Wr} {i : Nat} (h : Ld W0 W a f L i) : ∃ P, TgIn P W a (runB (L.take i)) (runT (L.take i)) ∧ ∀ k, P k → W0.heap.size ≤ k := by
  obtain ⟨S, h1, h2, h3⟩ := h.go
  obtain ⟨P, q1, q2⟩ := h1.tg
  exact ⟨P, q1, fun k r => h2 k (q2 k r)⟩
theorem Ld.fl {W0 W : World} {a f : Nat} {L : List Wr} {i : Nat} (h : Ld W0 W a f L i) : ∃ P, FlIn P W f (runB (L.take i)) ∧ ∀ k, P k → W0.heap.size ≤ k := by
  obtain ⟨S, h1, h2, h3⟩ := h.go
  obtain ⟨P, q1, q2⟩ := h1.fl
  exact ⟨P, q1, fun k r => h2 k (q2 k r)⟩
theorem Ld.loadT {W0 W : World} {a f : Nat} {L : List Wr} {i : Nat} (h : Ld W0 W a f L i) (addr size : Nat) (ha : addr < 18446744073709551616) (hs : size < 18446744073709551616) :
    Calls Try.prog 13 #[.pointer (some ⟨a, 0, none⟩), .int .u64 addr, .int .u64 size] W fun x w' => x = .returned (.tuple #[.int .u64 (ldV (runB (L.take i)) addr size), .int .i64 (ldE addr size)]) ∧ Ld W0 w' a f L i := by
  obtain ⟨P, q, _⟩ := h.tg
  refine (tgLoad_any P a addr size _ _ W q ha hs).mono ?_
  rintro x w' ⟨rfl, hb⟩
  exact ⟨rfl, h.gr hb⟩
theorem Ld.bytesT {W0 W : World} {a f : Nat} {L : List Wr} {i : Nat} (h : Ld W0 W a f L i) :
    Calls Try.prog 27 #[.pointer (some ⟨a, 0, none⟩)] W fun x w' => x = .returned (.string (allB (runB (L.take i)))) ∧ Ld W0 w' a f L i := by
  obtain ⟨P, q, _⟩ := h.tg
  refine (tgBytes_all P a _ _ W q).mono ?_
  rintro x w' ⟨rfl, hb⟩
  exact ⟨rfl, h.gr hb⟩
theorem eight {W : World} {la : Option Addr} {L : List Wr} (h : EIn 8 Wr.vals W la L) (i : Nat) (hi : i < L.length) : ∃ b off : Nat, la = some ⟨b, off, none⟩ ∧ b < W.heap.size ∧ W.cell? ⟨b, off + i * 8, none⟩ = some (.int .i64 L[i].a) ∧ W.cell? ⟨b, off + i * 8 + 1, none⟩ = some (.int .i64 L[i].k) ∧ W.cell? ⟨b, off + i * 8 + 1 + 1, none⟩ = some (.int .u64 L[i].n) ∧ W.cell? ⟨b, off + i * 8 + 1 + 1 + 1, none⟩ = some (.int .u64 L[i].c.b) ∧ W.cell? ⟨b, off + i * 8 + 1 + 1 + 1 + 1, none⟩ = some (.int .u64 L[i].c.e) ∧ W.cell? ⟨b, off + i * 8 + 1 + 1 + 1 + 1 + 1, none⟩ = some (.int .u64 L[i].c.c) ∧ W.cell? ⟨b, off + i * 8 + 1 + 1 + 1 + 1 + 1 + 1, none⟩ = some (.int .u8 L[i].c.p) ∧ W.cell? ⟨b, off + i * 8 + 1 + 1 + 1 + 1 + 1 + 1 + 1, none⟩ = some (.int .i64 L[i].c.s) := by
  obtain ⟨b, off, h1, h2, h3⟩ := h i hi
  exact ⟨b, off, h1, h2, h3 0 _ rfl, h3 1 _ rfl, h3 2 _ rfl, h3 3 _ rfl, h3 4 _ rfl, h3 5 _ rfl, h3 6 _ rfl, h3 7 _ rfl⟩
end T
end Go.Proofs.Ythblllanofnmmaa


/-
  Stage 6, tagmem: two lists of addresses held against each other; stores that are refused.
-/
namespace Go.Proofs.Ythblllanofnmmaa
namespace T
open Go.RowKit

/-- A list of numbers that can be read. -/
def UIn (w : World) (a : Option Addr) (L : List Nat) : Prop := ∀ i (h : i < L.length), ∃ g off : Nat, a = some ⟨g, off, none⟩ ∧ g < w.heap.size ∧ w.cell? ⟨g, off + i, none⟩ = some (.int .u64 L[i])
theorem UOwn.uin {w : World} {base : Nat} {v : Value} {L : List Nat} (h : UOwn w base v L) : ∃ a cap, v = .slice a L.length cap ∧ UIn w a L := by
  obtain ⟨a, cap, rfl, hc⟩ := h.form
  refine ⟨a, cap, rfl, fun i hi => ?_⟩
  obtain ⟨g, rfl, h1, h2⟩ := hc i hi
  exact ⟨g, 0, rfl, h1, by rw [Nat.zero_add]; exact h2⟩
theorem UIn.below {w w1 : World} {a : Option Addr} {L : List Nat} (h : UIn w a L) (hb : Below w.heap.size w w1) : UIn w1 a L := fun i hi => by
  obtain ⟨g, off, h1, h2, h3⟩ := h i hi
  exact ⟨g, off, h1, Nat.lt_of_lt_of_le h2 hb.size, (hb.cell (p := ⟨g, _, none⟩) h2).trans h3⟩
set_option maxHeartbeats 1000000 in
theorem same_eq (L : List Nat) (a b : Option Addr) (c d : Nat) (w : World) (h1 : UIn w a L) (h2 : UIn w b L) (hl : L.length ≤ 1000000) :
    Calls Try.prog 24 #[.slice a L.length c, .slice b L.length d] w fun x w' => x = .returned (.bool true) ∧ Below w.heap.size w w' := by
  replace h1 := Hid.mk h1
  replace h2 := Hid.mk h2
  go_enter Try.func24, Try.ntmps24
  go_wp2_with fail
  go_loopw [5] (fun v wr => ∃ i : Nat, v = .int .i64 i ∧ i ≤ L.length ∧ Below w.heap.size w wr) (fun v _ => L.length - (intOf v).toNat)
  case atStart => exact ⟨0, rfl, by omega, Below.refl _ _⟩
  case round =>
    obtain ⟨i, rfl, hi, hB⟩ := hrel
    by_cases hlt : i < L.length
    · have jl : (i : Int) < L.length := by omega
      obtain ⟨g1, o1, rfl, q1, c1⟩ := (h1.out.below hB) i hlt
      obtain ⟨g2, o2, rfl, q2, c2⟩ := (h2.out.below hB) i hlt
      generalize L[i] = y at *
      replace hB := Hid.mk hB
      go_wp2_with fail
      go_quiet (fail)
      go_wp2_with fail
      exact ⟨⟨i + 1, by go_num, by omega, hB.out.trans ((drewN_below _ _).mono hB.out.size)⟩, by simp [intOf]; omega⟩
    · have jl : ¬ (i : Int) < L.length := by omega
      replace hB := Hid.mk hB
      go_wp2_with fail
      go_ret
      exact ⟨rfl, hB.out⟩
set_option maxHeartbeats 1000000 in
theorem tgStore_bad (S : Nat → Prop) (a addr size n : Nat) (b : Nat → UInt8) (t : Nat → Option Cp) (w : World) (h : TgIn S w a b t) (ha : addr < 18446744073709551616) (hs : size < 18446744073709551616) (e : wordB addr size = false) :
    Calls Try.prog 20 #[.pointer (some ⟨a, 0, none⟩), .int .u64 addr, .int .u64 size, .int .u64 n] w fun x w' => x = .returned (.int .i64 60) ∧ Below w.heap.size w w' := by
  have hW := fun W => isWord_any addr size W ha hs
  rw [e] at hW
  replace h := Hid.mk h
  go_enter Try.func20, Try.ntmps20
  go_wp2_with (refine (hW _).mono ?_; rintro x w1 ⟨rfl, rfl⟩)
  go_ret
  exact ⟨rfl, Below.refl _ _⟩
set_option maxHeartbeats 1000000 in
theorem tgStoreCap_bad (S : Nat → Prop) (a addr : Nat) (b : Nat → UInt8) (t : Nat → Option Cp) (v : Vl) (w : World) (h : TgIn S w a b t) (ha : addr < 18446744073709551616) (e : granB addr = false) :
    Calls Try.prog 12 #[.pointer (some ⟨a, 0, none⟩), .int .u64 addr, v.agg] w fun x w' => x = .returned (.int .i64 60) ∧ Below w.heap.size w w' := by
  have hW := fun W => isGranule_any addr W ha
  rw [e] at hW
  replace h := Hid.mk h
  unfold Vl.agg
  go_enter Try.func12, Try.ntmps12
  go_wp2_with (refine (hW _).mono ?_; rintro x w1 ⟨rfl, rfl⟩)
  go_ret
  exact ⟨rfl, (Below.refl _ w).alloc (Nat.le_refl _) _⟩
end T
end Go.Proofs.Ythblllanofnmmaa
