import Derived.Test.YtlmgnfoopimmlaaGreatP52
import Derived.Test.YtlmgnfoopimmlaaGreatP37
import Derived.Test.YtlmgnfoopimmlaaGreatP42
/-
  Stage 6, tagmem: what is written is read; plain. And the memories that the statements begin with.
-/
namespace Go.Proofs.YtlmgnfoopimmlaaGreat
namespace T
open Go.RowKit

def runB (L : List Wr) : Nat → UInt8 := L.foldl wrB fun _ => 0
def runT (L : List Wr) : Nat → Option Cp := L.foldl wrT fun _ => none
theorem runB_snoc (L : List Wr) (i : Nat) (h : i < L.length) : wrB (runB (L.take i)) L[i] = runB (L.take (i + 1)) := by
  rw [List.take_succ_eq_append_getElem h]; unfold runB; rw [List.foldl_append]; rfl
theorem runT_snoc (L : List Wr) (i : Nat) (h : i < L.length) : wrT (runT (L.take i)) L[i] = runT (L.take (i + 1)) := by
  rw [List.take_succ_eq_append_getElem h]; unfold runT; rw [List.foldl_append]; rfl
theorem putB_other (b : Nat → UInt8) (addr n k x : Nat) (h : x < addr ∨ addr + k ≤ x) : putB b addr n k x = b x := by
  induction k with
  | zero => rfl
  | succ k ih =>
    rw [putB, upd, if_neg (by omega)]
    exact ih (by omega)
theorem leB_ext (b b' : Nat → UInt8) (addr k : Nat) (h : ∀ x, addr ≤ x → x < addr + k → b x = b' x) : leB b addr k = leB b' addr k := by
  induction k with
  | zero => rfl
  | succ k ih => rw [leB, leB, ih (fun x h1 h2 => h x h1 (by omega)), h _ (by omega) (by omega)]
theorem leB_putB (b : Nat → UInt8) (addr n k : Nat) : leB (putB b addr n k) addr k = n % 2 ^ (8 * k) := by
  induction k with
  | zero => simp [leB, Nat.mod_one]
  | succ k ih =>
    have e1 : leB (putB b addr n (k + 1)) addr k = leB (putB b addr n k) addr k := leB_ext _ _ _ _ (fun x h1 h2 => by rw [putB, upd, if_neg (by omega)])
    have e2 : putB b addr n (k + 1) (addr + k) = UInt8.ofNat (n / 2 ^ (8 * k) % 256) := by rw [putB, upd, if_pos rfl]
    rw [leB, e1, ih, e2]
    have e3 : (UInt8.ofNat (n / 2 ^ (8 * k) % 256)).toNat = n / 2 ^ (8 * k) % 256 := by
      rw [UInt8.toNat_ofNat']; omega
    have e4 : 2 ^ (8 * (k + 1)) = 2 ^ (8 * k) * 256 := by rw [show 8 * (k + 1) = 8 * k + 8 by omega, Nat.pow_add]
    rw [e3, e4, Nat.mod_mul, Nat.mul_comm (2 ^ (8 * k))]
/-- All bytes, as a text. -/
def allB (b : Nat → UInt8) : ByteArray := ⟨(rowB b 0 65536).toArray⟩
theorem allB_size (b : Nat → UInt8) : (allB b).size = 65536 := by simp [allB, ByteArray.size, rowB_len]
theorem allB_part (b b' : Nat → UInt8) (i j : Nat) (h : ∀ x, i ≤ x → x < j → b x = b' x) : (allB b).extract i j = (allB b').extract i j := by
  unfold allB
  apply ByteArray.ext
  simp only [ByteArray.data_extract]
  apply Array.ext_getElem?
  intro k
  have z1 : (rowB b 0 65536).toArray.size = 65536 := by simp [rowB_len]
  have z2 : (rowB b' 0 65536).toArray.size = 65536 := by simp [rowB_len]
  rw [Array.getElem?_extract, Array.getElem?_extract, z1, z2]
  split
  · rename_i q
    simp only [List.getElem?_toArray, rowB, List.getElem?_map, Nat.zero_add]
    by_cases hk : i + k < 65536
    · rw [List.getElem?_range hk, Option.map_some, Option.map_some, h _ (by omega) (by omega)]
    · omega
  · rfl
/-- The two memories of the statements, behind so many writes. -/
structure Ld (W0 W : World) (a f : Nat) (L : List Wr) (i : Nat) : Prop where
  go : ∃ S, Two S W a f (runB (L.take i)) (runB (L.take i)) (runT (L.take i)) ∧ (∀ k, S k → W0.heap.size ≤ k) ∧ Below W0.heap.size W0 W
theorem Ld.begin {w w1 w2 : World} {F : Nat → Prop} (L : List Wr) (h1 : TgIn (fun k => k = w.heap.size + 1) w1 (w.heap.size + 1) (fun _ => 0) (fun _ => none)) (hb1 : Below w.heap.size w w1) (h2 : FlIn F w2 w1.heap.size (fun _ => 0)) (hF : ∀ k, F k → w1.heap.size ≤ k) (hb2 : Below w1.heap.size w1 w2) :
    Ld w w2 (w.heap.size + 1) w1.heap.size L 0 := by
  have hs := h1.lt _ rfl
  exact ⟨fun k => k = w.heap.size + 1 ∨ F k, ⟨_, F, h1.gr hb2, h2, fun k q r => by have := hF k r; omega, fun k => Iff.rfl⟩, fun k q => by
    rcases q with q | q
    · omega
    · have := hF k q; have := hb1.size; omega, hb1.trans (hb2.mono hb1.size)⟩
theorem Ld.below {W0 W : World} {a f : Nat} {L : List Wr} {i : Nat} (h : Ld W0 W a f L i) : Below W0.heap.size W0 W := by
  obtain ⟨S, _, _, hb⟩ := h.go
  exact hb
theorem Ld.gr {W0 W W1 : World} {a f : Nat} {L : List Wr} {i : Nat} (h : Ld W0 W a f L i) (hb : Below W.heap.size W W1) : Ld W0 W1 a f L i := by
  obtain ⟨S, h1, h2, h3⟩ := h.go
  exact ⟨S, h1.gr hb, h2, h3.trans (hb.mono h3.size)⟩
theorem Ld.tg {W0 W : World} {a f : Nat} {L : List Wr} {i : Nat} (h : Ld W0 W a f L i) : ∃ P, TgIn P W a (runB (L.take i)) (runT (L.take i)) ∧ ∀ k, P k → W0.heap.size ≤ k := by
  obtain ⟨S, h1, h2, h3⟩ := h.go
  obtain ⟨P, q1, q2⟩ := h1.tg
  exact ⟨P, q1, fun k r => h2 k (q2 k r)⟩
theorem Ld.fl {W0 W : World} {a f : Nat} {L : List Wr} {i : Nat} (h : Ld W0 W a f L i) : ∃ P, FlIn P W f (runB (L.take i)) ∧ ∀ k, P k → W0.heap.size ≤ k := by
  obtain ⟨S, h1, h2, h3⟩ := h.go
  obtain ⟨P, q1, q2⟩ := h1.fl
  exact ⟨P, q1, fun k r => h2 k (q2 k r)⟩
theorem eight {W : World} {la : Option Addr} {L : List Wr} (h : EIn 8 Wr.vals W la L) (i : Nat) (hi : i < L.length) : ∃ b off : Nat, la = some ⟨b, off, none⟩ ∧ b < W.heap.size ∧ W.cell? ⟨b, off + i * 8, none⟩ = some (.int .i64 L[i].a) ∧ W.cell? ⟨b, off + i * 8 + 1, none⟩ = some (.int .i64 L[i].k) ∧ W.cell? ⟨b, off + i * 8 + 1 + 1, none⟩ = some (.int .u64 L[i].n) ∧ W.cell? ⟨b, off + i * 8 + 1 + 1 + 1, none⟩ = some (.int .u64 L[i].c.b) ∧ W.cell? ⟨b, off + i * 8 + 1 + 1 + 1 + 1, none⟩ = some (.int .u64 L[i].c.e) ∧ W.cell? ⟨b, off + i * 8 + 1 + 1 + 1 + 1 + 1, none⟩ = some (.int .u64 L[i].c.c) ∧ W.cell? ⟨b, off + i * 8 + 1 + 1 + 1 + 1 + 1 + 1, none⟩ = some (.int .u8 L[i].c.p) ∧ W.cell? ⟨b, off + i * 8 + 1 + 1 + 1 + 1 + 1 + 1 + 1, none⟩ = some (.int .i64 L[i].c.s) := by
  obtain ⟨b, off, h1, h2, h3⟩ := h i hi
  exact ⟨b, off, h1, h2, h3 0 _ rfl, h3 1 _ rfl, h3 2 _ rfl, h3 3 _ rfl, h3 4 _ rfl, h3 5 _ rfl, h3 6 _ rfl, h3 7 _ rfl⟩
end T
end Go.Proofs.YtlmgnfoopimmlaaGreat


/-
  Stage 13, fastvm: what a step leaves as it is. No Go in sight.
-/
namespace Go.Proofs.YtlmgnfoopimmlaaGreat
namespace Z
open Go.RowKit
open T (Sep Ob Kp Mf FlIn boxOb)

/-- What has been touched: memory changes by stores alone, and where they say. -/
def TcOk (s s' : Fm) : Prop := (s'.tc = s.tc ∧ s'.m = s.m) ∨ ∃ t : Tc, s'.tc = s.tc ++ [t] ∧ (t.n = 1 ∨ t.n = 8 ∨ t.n = 16) ∧ (t.s = false → s'.m = s.m) ∧ (0 ≤ t.a ∧ t.a + t.n ≤ 65536 ∧ ∀ i : Nat, (i : Int) < t.a ∨ t.a + t.n ≤ i → s'.m i = s.m i)
structure OnOk (s s' : Fm) : Prop where
  out : s'.out = s.out ∨ ∃ x, s'.out = s.out ++ [x]
  tc : TcOk s s'
structure OffOk (s s' : Fm) : Prop where
  g : s'.g = s.g
  p : s'.p = s.p
  st : s'.st = s.st
  r : s'.r = s.r
  out : s'.out = s.out
  tc : s'.tc = s.tc
  m : s'.m = s.m
  f : (s'.f ≠ 0) ↔ (s'.e = 7)
/-- Either it goes on, or nothing has changed. -/
def StepOk (s s' : Fm) : Prop := (s'.e = 0 ∧ OnOk s s') ∨ (s'.e ≠ 0 ∧ OffOk s s')
theorem off_of (s : Fm) (e v f : Int) (he : e ≠ 0) (hf : (f ≠ 0) ↔ (e = 7)) : StepOk s { s with e := e, v := v, f := f } := .inr ⟨he, rfl, rfl, rfl, rfl, rfl, rfl, rfl, hf⟩
theorem on_of (s s' : Fm) (h : s.e = 0) (he : s'.e = s.e) (ho : s'.out = s.out) (ht : s'.tc = s.tc) (hm : s'.m = s.m) : StepOk s s' := .inl ⟨he.trans h, .inl ho, .inl ⟨ht, hm⟩⟩
theorem on_tc (s s' : Fm) (h : s.e = 0) (he : s'.e = s.e) (ho : s'.out = s.out) (t : Tc) (ht : s'.tc = s.tc ++ [t]) (hn : t.n = 1 ∨ t.n = 8 ∨ t.n = 16) (hs : t.s = false → s'.m = s.m) (ha : 0 ≤ t.a ∧ t.a + t.n ≤ 65536 ∧ ∀ i : Nat, (i : Int) < t.a ∨ t.a + t.n ≤ i → s'.m i = s.m i) : StepOk s s' := .inl ⟨he.trans h, .inl ho, .inr ⟨t, ht, hn, hs, ha⟩⟩
theorem stB_other (m : Nat → UInt8) (a k v i : Nat) (h : i < a ∨ a + k ≤ i) : T.stB m a k v i = m i := by
  unfold T.stB
  split
  · exact T.putB_other m a v k i h
  · rfl
theorem stepI_ok (P : Pr) (i : Fi) (s : Fm) (h : s.e = 0) : StepOk s (stepI P i s) := by
  have hw : ∀ n : Int, 0 ≤ IntKind.u64.wrap n := fun n => (wd_wrap n).1
  refine stepI_cases P i s (StepOk s) ?_ ?_ ?_ ?_ ?_ ?_ ?_ ?_ ?_ ?_ ?_ ?_ ?_ ?_ ?_ ?_ ?_ ?_ ?_ ?_ ?_ ?_ ?_ ?_ ?_ ?_ ?_ ?_ ?_ ?_ ?_ ?_ ?_ ?_ ?_
  · intro _; exact on_of s _ h rfl rfl rfl rfl
  · intro _; exact on_of s _ h rfl rfl rfl rfl
  · intro _; exact on_of s _ h rfl rfl rfl rfl
  · intro _; exact on_of s _ h rfl rfl rfl rfl
  · intro _; exact on_of s _ h rfl rfl rfl rfl
  · intro _; exact on_of s _ h rfl rfl rfl rfl
  · intro _; exact on_of s _ h rfl rfl rfl rfl
  · intro _; exact on_of s _ h rfl rfl rfl rfl
  · intro _; exact on_of s _ h rfl rfl rfl rfl
  · intro _; exact on_of s _ h rfl rfl rfl rfl
  · intro _; exact on_of s _ h rfl rfl rfl rfl
  · intro _; exact on_of s _ h rfl rfl rfl rfl
  · intro _; exact on_of s _ h rfl rfl rfl rfl
  · intro _; exact on_of s _ h rfl rfl rfl rfl
  · intro _; exact on_of s _ h rfl rfl rfl rfl
  · intro _; exact on_of s _ h rfl rfl rfl rfl
  · intro _; exact on_of s _ h rfl rfl rfl rfl
  · intro _; exact on_of s _ h rfl rfl rfl rfl
  · intro _; exact on_of s _ h rfl rfl rfl rfl
  · intro _; exact off_of s 1 _ 0 (by decide) (by decide)
  · intro _; exact off_of s 3 _ 0 (by decide) (by decide)
  · intro _; unfold stp29; split
    · exact off_of s 6 _ 0 (by decide) (by decide)
    · exact on_of s _ h rfl rfl rfl rfl
  · intro _; exact .inl ⟨h, .inr ⟨_, rfl⟩, .inl ⟨rfl, rfl⟩⟩
  · intro _; unfold stp31; split
    · exact off_of s 5 _ 0 (by decide) (by decide)
    · exact on_of s _ h rfl rfl rfl rfl
  · intro _; unfold stp32; split
    · exact off_of s 1 _ 0 (by decide) (by decide)
    · exact on_of s _ h rfl rfl rfl rfl
  · intro _; unfold stp60; split
    · exact off_of s 7 _ 5 (by decide) (by decide)
    · rename_i hq; exact on_tc s _ h rfl rfl ⟨false, IntKind.u64.wrap (s.r i.b + i.i), 1⟩ rfl (by simp) (fun _ => rfl) ⟨hw _, by simp only; omega, fun _ _ => rfl⟩
  · intro _; unfold stp61; split
    · exact off_of s 7 _ 5 (by decide) (by decide)
    · rename_i hq; exact on_tc s _ h rfl rfl ⟨false, IntKind.u64.wrap (s.r i.b + i.i), 8⟩ rfl (by simp) (fun _ => rfl) ⟨hw _, by simp only; omega, fun _ _ => rfl⟩
  · intro _; unfold stp62; split
    · exact off_of s 7 _ 5 (by decide) (by decide)
    · rename_i hq; exact on_tc s _ h rfl rfl ⟨true, IntKind.u64.wrap (s.r i.b + i.i), 1⟩ rfl (by simp) (fun e => by cases e) ⟨hw _, by simp only; omega, fun j hj => stB_other _ _ _ _ _ (by have := hw (s.r i.b + i.i); simp only at hj; omega)⟩
  · intro _; unfold stp63; split
    · exact off_of s 7 _ 5 (by decide) (by decide)
    · rename_i hq; exact on_tc s _ h rfl rfl ⟨true, IntKind.u64.wrap (s.r i.b + i.i), 8⟩ rfl (by simp) (fun e => by cases e) ⟨hw _, by simp only; omega, fun j hj => stB_other _ _ _ _ _ (by have := hw (s.r i.b + i.i); simp only at hj; omega)⟩
  · intro _; unfold stp64; split
    · exact off_of s 7 _ 5 (by decide) (by decide)
    · rename_i hq; exact on_tc s _ h rfl rfl ⟨false, IntKind.u64.wrap (s.r i.b + i.i), 16⟩ rfl (by simp) (fun _ => rfl) ⟨hw _, by simp only; omega, fun _ _ => rfl⟩
  · intro _; unfold stp65; split
    · exact off_of s 7 _ 5 (by decide) (by decide)
    · rename_i hq; exact on_tc s _ h rfl rfl ⟨true, IntKind.u64.wrap (s.r i.b + i.i), 16⟩ rfl (by simp) (fun e => by cases e) ⟨hw _, by simp only; omega, fun j hj => by
        have h1 := hw (s.r i.b + i.i)
        simp only at hj
        refine (stB_other _ _ _ _ _ (by omega)).trans (stB_other _ _ _ _ _ (by omega))⟩
  · intro _; unfold stp70; split
    · exact on_of s _ h rfl rfl rfl rfl
    · exact off_of s 2 _ 0 (by decide) (by decide)
  · intro _; unfold stp71; split
    · exact on_of s _ h rfl rfl rfl rfl
    · exact off_of s 2 _ 0 (by decide) (by decide)
  · intro _; exact off_of s 2 _ 0 (by decide) (by decide)
  · exact on_of s _ h rfl rfl rfl rfl
theorem stepM_ok (P : Pr) (s : Fm) (h : s.e = 0) : StepOk s (stepM P s) := by
  unfold stepM
  split
  · exact stepI_ok P _ s h
  · exact off_of s 7 _ 8 (by decide) (by decide)
end Z
end Go.Proofs.YtlmgnfoopimmlaaGreat
