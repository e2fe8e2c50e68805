import Derived.Test.YtbichnngepjpnaaGreatP44
import Derived.Test.YtbichnngepjpnaaGreatTOpen
import Derived.Test.YtbichnngepjpnaaGreatTEin
/-
  Stage 6, tagmem: the statements' writes.
-/
namespace Go.Proofs.YtbichnngepjpnaaGreat
namespace T
open Go.RowKit

/-- Something that is written. -/
structure Wr where
  a : Int
  k : Int
  n : Nat
  c : Cp
structure Cp.Ok (c : Cp) : Prop where
  rb : U64 c.b
  re : U64 c.e
  rc : U64 c.c
  rp : 0 ≤ c.p ∧ c.p < 256
  rs : I64 c.s
structure Wr.Ok (x : Wr) : Prop where
  ra : I64 x.a
  rk : I64 x.k
  rn : x.n < 18446744073709551616
  rc : x.c.Ok
def Wr.cells (x : Wr) : Array Value := #[.int .i64 x.a, .int .i64 x.k, .int .u64 x.n, .int .u64 x.c.b, .int .u64 x.c.e, .int .u64 x.c.c, .int .u8 x.c.p, .int .i64 x.c.s]
def Wr.at (x : Wr) : Nat := pk x.a 65536
def Wr.kind (x : Wr) : Nat := pk x.k 4
def Wr.place (x : Wr) : Nat := x.at / 16 * 16
def Wr.low (x : Wr) : Nat := if x.at ≤ 65528 then x.at else 65528
def Wr.val (x : Wr) : Vl := if x.kind = 2 then ⟨true, 0, x.c⟩ else ⟨false, x.n, Cp.zero⟩
/-- The bytes, when it is written. -/
def wrB (b : Nat → UInt8) (x : Wr) : Nat → UInt8 :=
  if x.kind = 0 then stB b x.at 1 x.n else if x.kind = 1 then stB b x.low 8 x.n else scB b x.place x.val
def wrT (t : Nat → Option Cp) (x : Wr) : Nat → Option Cp :=
  if x.kind = 0 then stT t x.at 1 else if x.kind = 1 then stT t x.low 8 else scT t x.place x.val
theorem word1 {a : Nat} (h : a < 65536) : wordB a 1 = true := by simp [wordB]; omega
theorem word8 {a : Nat} (h : a ≤ 65528) : wordB a 8 = true := by simp [wordB]; omega
theorem gran {a : Nat} (h : a < 65536) : granB (a / 16 * 16) = true := by simp [granB]; omega
theorem scB_two (b : Nat → UInt8) (p : Nat) (v : Vl) (hp : p ≤ 65520) (hg : granB p = true) : stB (stB b p 8 v.num) (p + 8) 8 0 = scB b p v := by
  unfold stB scB
  rw [word8 (by omega), word8 (by omega), hg]
  rfl
end T
end Go.Proofs.YtbichnngepjpnaaGreat


/-
  Stage 6, tagmem: what came in, opened: capabilities, writes, numbers, texts, and lists of them.
-/
namespace Go.Proofs.YtbichnngepjpnaaGreat
namespace T
open Go.ChangeShapes Go.WideShapes Go.ChangeAt Go.RowKit Go.Deep

theorem bd_u64 {n : Int} (h : (Lit.int .u64 n).wf = true) : U64 n := by
  have := bounds_u64 h; unfold U64; omega
theorem bd_u8 {n : Int} (h : (Lit.int .u8 n).wf = true) : 0 ≤ n ∧ n < 256 := by
  have := bounds_u8 h; omega
theorem bd_i64 {n : Int} (h : (Lit.int .i64 n).wf = true) : I64 n := by
  have := bounds_i64 h; unfold I64; omega
theorem choose_list {α : Type} (p : Nat → α → Prop) : ∀ n, (∀ i, i < n → ∃ k, p i k) → ∃ L : List α, L.length = n ∧ ∀ i (h : i < L.length), p i L[i]
  | 0, _ => ⟨[], rfl, fun i h => by simp at h⟩
  | n + 1, h => by
    obtain ⟨L, hl, hL⟩ := choose_list p n (fun i hi => h i (by omega))
    obtain ⟨k, hk⟩ := h n (by omega)
    refine ⟨L ++ [k], by simp [hl], fun i hi => ?_⟩
    by_cases hin : i < L.length
    · rw [List.getElem_append_left hin]; exact hL i hin
    · have : i = n := by simp at hi; omega
      subst this
      rw [List.getElem_append_right (by omega)]
      simpa [hl] using hk
theorem addr_off (b off k : Nat) : (⟨b, off, none⟩ : Addr).add k = ⟨b, off + k, none⟩ := by by_cases h : k = 0 <;> simp [Addr.add, h]
theorem open_list {α : Type} {vals : α → List Value} {ok : α → Prop} {st et : TypeId} {k : Nat} (hu : Tryz.prog.underlying st = some (.slice et)) (hk : Tryz.prog.cellsOf et = k) (h0 : 0 < k) (hlen : ∀ x, (vals x).length = k)
    {H : Type} {enc : TypeId × Value → H} {W : World} {spare : Nat → Bool} {held : Bool} {a : Option Addr} {len cap : Nat} {d : DataW H} {ps : List MemPlace}
    (ht : ∀ n cs x, DataW.trod enc Tryz.prog W 0 spare held n et cs = some x → ∃ y, cs = vals y ∧ ok y)
    (h : DataW.Trod enc Tryz.prog W 0 spare held st (.slice a len cap) d ps) : ∃ L : List α, len = L.length ∧ ((∀ x ∈ L, ok x) ∧ EIn k vals W a L) ∧ L.length ≤ maxLen := by
  obtain ⟨fuel, hf⟩ := h
  rcases open_slice hu hf with ⟨hcs, _⟩ | ⟨x, l, c, m, n, D, Pl, hcs, _, hl, hm, hmm, _, hx⟩
  · simp [Value.cells] at hcs
    obtain ⟨rfl, rfl, rfl⟩ := hcs
    exact ⟨[], rfl, ⟨fun x q => by simp at q, fun i hi => by simp at hi⟩, by simp [maxLen]⟩
  · simp [Value.cells] at hcs
    obtain ⟨rfl, rfl, rfl⟩ := hcs
    obtain ⟨L, hL, hp⟩ := choose_list (fun i y => ok y ∧ W.cells? 0 (x.add (i * k)) k = some (vals y)) len (fun i hi => by
      obtain ⟨cs', h1, h2⟩ := hx i (by rw [hmm]; split <;> omega)
      obtain ⟨y, rfl, hy⟩ := ht _ _ _ h2
      rw [hk] at h1
      exact ⟨y, hy, h1⟩)
    refine ⟨L, hL.symm, ⟨fun y hy => ?_, fun i hi => ?_⟩, by omega⟩
    · obtain ⟨i, hi, rfl⟩ := List.getElem_of_mem hy
      exact (hp i hi).1
    · have h00 := (hp 0 (by omega)).2
      have hs : x.spot = none := by
        obtain ⟨_, hl', hc⟩ := World.cells?_some h00
        have c0 := hc 0 (by omega)
        simp only [Nat.zero_mul, Addr.add, if_true] at c0
        exact World.cell?_spot (c0.trans (List.getElem?_eq_getElem (by rw [hlen]; exact h0)))
      obtain ⟨b, off, spot⟩ := x
      obtain rfl : spot = none := hs
      have hi' := (hp i hi).2
      obtain ⟨_, hl', hc⟩ := World.cells?_some hi'
      have hcell : ∀ j, j < k → W.cell? ⟨b, off + i * k + j, none⟩ = (vals L[i])[j]? := fun j hj => by
        have c0 := hc j hj
        rw [addr_off, addr_off] at c0
        exact c0
      refine ⟨b, off, rfl, ?_, fun j v q => ?_⟩
      · have c0 := hcell 0 h0
        exact World.block_lt_of_cell? W _ (c0.trans (List.getElem?_eq_getElem (by rw [hlen]; exact h0)))
      · rw [hcell j (by
          have := (List.getElem?_eq_some_iff.1 q).1
          rw [hlen] at this; exact this)]
        exact q
def Cp.vals (c : Cp) : List Value := [.int .u64 c.b, .int .u64 c.e, .int .u64 c.c, .int .u8 c.p, .int .i64 c.s]
def Wr.vals (x : Wr) : List Value := [.int .i64 x.a, .int .i64 x.k, .int .u64 x.n, .int .u64 x.c.b, .int .u64 x.c.e, .int .u64 x.c.c, .int .u8 x.c.p, .int .i64 x.c.s]
theorem list5 {α : Type} {cs : List α} (h : cs.length = 5) : ∃ c0 c1 c2 c3 c4, cs = [c0, c1, c2, c3, c4] := by
  match cs, h with
  | [c0, c1, c2, c3, c4], _ => exact ⟨c0, c1, c2, c3, c4, rfl⟩
theorem list8 {α : Type} {cs : List α} (h : cs.length = 8) : ∃ c0 c1 c2 c3 c4 c5 c6 c7, cs = [c0, c1, c2, c3, c4, c5, c6, c7] := by
  match cs, h with
  | [c0, c1, c2, c3, c4, c5, c6, c7], _ => exact ⟨c0, c1, c2, c3, c4, c5, c6, c7, rfl⟩
theorem list7 {α : Type} {cs : List α} (h : cs.length = 7) : ∃ c0 c1 c2 c3 c4 c5 c6, cs = [c0, c1, c2, c3, c4, c5, c6] := by
  match cs, h with
  | [c0, c1, c2, c3, c4, c5, c6], _ => exact ⟨c0, c1, c2, c3, c4, c5, c6, rfl⟩
theorem list12 {α : Type} {cs : List α} (h : cs.length = 12) : ∃ c0 c1 c2 c3 c4 c5 c6 c7 c8 c9 c10 c11, cs = [c0, c1, c2, c3, c4, c5, c6, c7, c8, c9, c10, c11] := by
  match cs, h with
  | [c0, c1, c2, c3, c4, c5, c6, c7, c8, c9, c10, c11], _ => exact ⟨c0, c1, c2, c3, c4, c5, c6, c7, c8, c9, c10, c11, rfl⟩
def intV (x : Int) : List Value := [.int .i64 x]
end T
end Go.Proofs.YtbichnngepjpnaaGreat


/-
  Stage 6, tagmem: what is written is read; plain. And the memories that the statements begin with.
-/
namespace Go.Proofs.YtbichnngepjpnaaGreat
namespace T
open Go.RowKit

def runB (L : List Wr) : Nat → UInt8 := L.foldl wrB fun _ => 0
def runT (L : List Wr) : Nat → Option Cp := L.foldl wrT fun _ => none
theorem runB_snoc (L : List Wr) (i : Nat) (h : i < L.length) : wrB (runB (L.take i)) L[i] = runB (L.take (i + 1)) := by
  rw [List.take_succ_eq_append_getElem h]; unfold runB; rw [List.foldl_append]; rfl
theorem runT_snoc (L : List Wr) (i : Nat) (h : i < L.length) : wrT (runT (L.take i)) L[i] = runT (L.take (i + 1)) := by
  rw [List.take_succ_eq_append_getElem h]; unfold runT; rw [List.foldl_append]; rfl
theorem putB_other (b : Nat → UInt8) (addr n k x : Nat) (h : x < addr ∨ addr + k ≤ x) : putB b addr n k x = b x := by
  induction k with
  | zero => rfl
  | succ k ih =>
    rw [putB, upd, if_neg (by omega)]
    exact ih (by omega)
theorem leB_ext (b b' : Nat → UInt8) (addr k : Nat) (h : ∀ x, addr ≤ x → x < addr + k → b x = b' x) : leB b addr k = leB b' addr k := by
  induction k with
  | zero => rfl
  | succ k ih => rw [leB, leB, ih (fun x h1 h2 => h x h1 (by omega)), h _ (by omega) (by omega)]
theorem leB_putB (b : Nat → UInt8) (addr n k : Nat) : leB (putB b addr n k) addr k = n % 2 ^ (8 * k) := by
  induction k with
  | zero => simp [leB, Nat.mod_one]
  | succ k ih =>
    have e1 : leB (putB b addr n (k + 1)) addr k = leB (putB b addr n k) addr k := leB_ext _ _ _ _ (fun x h1 h2 => by rw [putB, upd, if_neg (by omega)])
    have e2 : putB b addr n (k + 1) (addr + k) = UInt8.ofNat (n / 2 ^ (8 * k) % 256) := by rw [putB, upd, if_pos rfl]
    rw [leB, e1, ih, e2]
    have e3 : (UInt8.ofNat (n / 2 ^ (8 * k) % 256)).toNat = n / 2 ^ (8 * k) % 256 := by
      rw [UInt8.toNat_ofNat']; omega
    have e4 : 2 ^ (8 * (k + 1)) = 2 ^ (8 * k) * 256 := by rw [show 8 * (k + 1) = 8 * k + 8 by omega, Nat.pow_add]
    rw [e3, e4, Nat.mod_mul, Nat.mul_comm (2 ^ (8 * k))]
/-- All bytes, as a text. -/
def allB (b : Nat → UInt8) : ByteArray := ⟨(rowB b 0 65536).toArray⟩
theorem allB_size (b : Nat → UInt8) : (allB b).size = 65536 := by simp [allB, ByteArray.size, rowB_len]
theorem allB_part (b b' : Nat → UInt8) (i j : Nat) (h : ∀ x, i ≤ x → x < j → b x = b' x) : (allB b).extract i j = (allB b').extract i j := by
  unfold allB
  apply ByteArray.ext
  simp only [ByteArray.data_extract]
  apply Array.ext_getElem?
  intro k
  have z1 : (rowB b 0 65536).toArray.size = 65536 := by simp [rowB_len]
  have z2 : (rowB b' 0 65536).toArray.size = 65536 := by simp [rowB_len]
  rw [Array.getElem?_extract, Array.getElem?_extract, z1, z2]
  split
  · rename_i q
    simp only [List.getElem?_toArray, rowB, List.getElem?_map, Nat.zero_add]
    by_cases hk : i + k < 65536
    · rw [List.getElem?_range hk, Option.map_some, Option.map_some, h _ (by omega) (by omega)]
    · omega
  · rfl
/-- The two memories of the statements, behind so many writes. -/
structure Ld (W0 W : World) (a f : Nat) (L : List Wr) (i : Nat) : Prop where
  go : ∃ S, Two S W a f (runB (L.take i)) (runB (L.take i)) (runT (L.take i)) ∧ (∀ k, S k → W0.heap.size ≤ k) ∧ Below W0.heap.size W0 W
theorem Ld.begin {w w1 w2 : World} {F : Nat → Prop} (L : List Wr) (h1 : TgIn (fun k => k = w.heap.size + 1) w1 (w.heap.size + 1) (fun _ => 0) (fun _ => none)) (hb1 : Below w.heap.size w w1) (h2 : FlIn F w2 w1.heap.size (fun _ => 0)) (hF : ∀ k, F k → w1.heap.size ≤ k) (hb2 : Below w1.heap.size w1 w2) :
    Ld w w2 (w.heap.size + 1) w1.heap.size L 0 := by
  have hs := h1.lt _ rfl
  exact ⟨fun k => k = w.heap.size + 1 ∨ F k, ⟨_, F, h1.gr hb2, h2, fun k q r => by have := hF k r; omega, fun k => Iff.rfl⟩, fun k q => by
    rcases q with q | q
    · omega
    · have := hF k q; have := hb1.size; omega, hb1.trans (hb2.mono hb1.size)⟩
theorem Ld.below {W0 W : World} {a f : Nat} {L : List Wr} {i : Nat} (h : Ld W0 W a f L i) : Below W0.heap.size W0 W := by
  obtain ⟨S, _, _, hb⟩ := h.go
  exact hb
theorem Ld.gr {W0 W W1 : World} {a f : Nat} {L : List Wr} {i : Nat} (h : Ld W0 W a f L i) (hb : Below W.heap.size W W1) : Ld W0 W1 a f L i := by
  obtain ⟨S, h1, h2, h3⟩ := h.go
  exact ⟨S, h1.gr hb, h2, h3.trans (hb.mono h3.size)⟩
theorem Ld.tg {W0 W : World} {a f : Nat} {L : List Wr} {i : Nat} (h : Ld W0 W a f L i) : ∃ P, TgIn P W a (runB (L.take i)) (runT (L.take i)) ∧ ∀ k, P k → W0.heap.size ≤ k := by
  obtain ⟨S, h1, h2, h3⟩ := h.go
  obtain ⟨P, q1, q2⟩ := h1.tg
  exact ⟨P, q1, fun k r => h2 k (q2 k r)⟩
theorem Ld.fl {W0 W : World} {a f : Nat} {L : List Wr} {i : Nat} (h : Ld W0 W a f L i) : ∃ P, FlIn P W f (runB (L.take i)) ∧ ∀ k, P k → W0.heap.size ≤ k := by
  obtain ⟨S, h1, h2, h3⟩ := h.go
  obtain ⟨P, q1, q2⟩ := h1.fl
  exact ⟨P, q1, fun k r => h2 k (q2 k r)⟩
theorem eight {W : World} {la : Option Addr} {L : List Wr} (h : EIn 8 Wr.vals W la L) (i : Nat) (hi : i < L.length) : ∃ b off : Nat, la = some ⟨b, off, none⟩ ∧ b < W.heap.size ∧ W.cell? ⟨b, off + i * 8, none⟩ = some (.int .i64 L[i].a) ∧ W.cell? ⟨b, off + i * 8 + 1, none⟩ = some (.int .i64 L[i].k) ∧ W.cell? ⟨b, off + i * 8 + 1 + 1, none⟩ = some (.int .u64 L[i].n) ∧ W.cell? ⟨b, off + i * 8 + 1 + 1 + 1, none⟩ = some (.int .u64 L[i].c.b) ∧ W.cell? ⟨b, off + i * 8 + 1 + 1 + 1 + 1, none⟩ = some (.int .u64 L[i].c.e) ∧ W.cell? ⟨b, off + i * 8 + 1 + 1 + 1 + 1 + 1, none⟩ = some (.int .u64 L[i].c.c) ∧ W.cell? ⟨b, off + i * 8 + 1 + 1 + 1 + 1 + 1 + 1, none⟩ = some (.int .u8 L[i].c.p) ∧ W.cell? ⟨b, off + i * 8 + 1 + 1 + 1 + 1 + 1 + 1 + 1, none⟩ = some (.int .i64 L[i].c.s) := by
  obtain ⟨b, off, h1, h2, h3⟩ := h i hi
  exact ⟨b, off, h1, h2, h3 0 _ rfl, h3 1 _ rfl, h3 2 _ rfl, h3 3 _ rfl, h3 4 _ rfl, h3 5 _ rfl, h3 6 _ rfl, h3 7 _ rfl⟩
end T
end Go.Proofs.YtbichnngepjpnaaGreat
