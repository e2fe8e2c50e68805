import Derived.Test.YtoppcikacakjcaaP04
import Derived.Test.YtoppcikacakjcaaP06
import Derived.Deep.Slices
import Derived.SizedLaws
import Derived.Test.YtoppcikacakjcaaChecked
import Derived.Test.YtoppcikacakjcaaP03
import Derived.WalkKit
import Derived.WalkSpells
import Derived.WalkLawsBesides
import Derived.Laws.Shifts
import Derived.Laws.BitsAllLaws
import Derived.Lib.OthersKept
import Derived.Deep.DeepCutAuto
import Derived.Deep.Light
import Derived.Deep.QuietTactic
import Derived.BigQuiet
import Derived.Deep.RegionWith
import Derived.BigRegion
/-
  Stage 3, instr: a row of instructions that came in, opened; how long it may be.
-/
namespace Go.Proofs.Ytoppcikacakjcaa
open Go.ChangeShapes Go.WideShapes Go.ChangeAt Go.RowKit Go.Deep

theorem five_list {α : Type} {cs : List α} (h : cs.length = 5) : ∃ c0 c1 c2 c3 c4, cs = [c0, c1, c2, c3, c4] := by
  match cs, h with
  | [c0, c1, c2, c3, c4], _ => exact ⟨c0, c1, c2, c3, c4, rfl⟩
theorem bulk_one {H : Type} (d : DataW H) : 1 ≤ Rows.uptoBulk d := by
  cases d with
  | lit l => cases l <;> simp [Rows.uptoBulk]
  | _ => simp [Rows.uptoBulk]
theorem bulk_len {H : Type} (l : List (DataW H)) : l.length ≤ Rows.uptoBulkAll l := by
  induction l with
  | nil => simp [Rows.uptoBulkAll]
  | cons x r ih => have := bulk_one x; simp only [Rows.uptoBulkAll, List.length_cons]; omega
theorem trod_inst {H : Type} {enc : TypeId × Value → H} {W : World} {b0 n : Nat} {spare : Nat → Bool} {held : Bool} {cs : List Value} {x : DataW H × List MemPlace}
    (hf : DataW.trod enc Try.prog W b0 spare held n 49 cs = some x) : ∃ k : Ins, cs = k.vals ∧ (0 ≤ k.op ∧ k.op < 256) ∧ 6 ≤ Rows.uptoBulk x.1 := by
  have hs := Try.underlying49
  obtain ⟨xs, m, _, hxx, hcl, hl, hx⟩ := DataW.trod_struct hs hf
  obtain ⟨c0, c1, c2, c3, c4, rfl⟩ := five_list (hcl.trans cellsInst)
  have hbk : 6 ≤ Rows.uptoBulk x.1 := by
    rw [hxx]
    have := bulk_len (xs.map (·.1))
    rw [List.length_map, hl] at this
    have h5 : 5 ≤ Rows.uptoBulkAll (xs.map (·.1)) := this
    simp only [Rows.uptoBulk]
    omega
  have at_ : ∀ i, i < 5 → ∃ y, xs[i]? = some y := by
    intro i hi
    have : i < xs.length := by rw [hl]; simpa using hi
    exact ⟨xs[i], by simp [this]⟩
  have k1 : Try.prog.cellsOf 47 = 1 := by kernel_rfl
  have k2 : Try.prog.cellsOf 3 = 1 := by kernel_rfl
  obtain ⟨y0, t0⟩ := at_ 0 (by omega)
  rw [← hx 0 _ rfl] at t0
  obtain ⟨y1, t1⟩ := at_ 1 (by omega)
  rw [← hx 1 _ rfl] at t1
  obtain ⟨y2, t2⟩ := at_ 2 (by omega)
  rw [← hx 2 _ rfl] at t2
  obtain ⟨y3, t3⟩ := at_ 3 (by omega)
  rw [← hx 3 _ rfl] at t3
  obtain ⟨y4, t4⟩ := at_ 4 (by omega)
  rw [← hx 4 _ rfl] at t4
  obtain ⟨op, e0, _, w0⟩ := DataW.trod_int Try.underlying47 t0
  obtain ⟨a, e1, _, _⟩ := DataW.trod_int Try.underlying3 t1
  obtain ⟨b, e2, _, _⟩ := DataW.trod_int Try.underlying3 t2
  obtain ⟨c, e3, _, _⟩ := DataW.trod_int Try.underlying3 t3
  obtain ⟨m, e4, _, _⟩ := DataW.trod_int Try.underlying3 t4
  simp [k1, k2] at e0 e1 e2 e3 e4
  subst e0 e1 e2 e3 e4
  exact ⟨⟨op, a, b, c, m⟩, rfl, bd_u8 w0, hbk⟩
theorem addr_add (b off k : Nat) : (⟨b, off, none⟩ : Addr).add k = ⟨b, off + k, none⟩ := by by_cases h : k = 0 <;> simp [Addr.add, h]
theorem no_spot {W : World} {a : Addr} {v : Value} {r : List Value} {n : Nat} (h : W.cells? 0 (a.add (0 * 5)) n = some (v :: r)) : a.spot = none := by
  obtain ⟨_, hl, hc⟩ := World.cells?_some h
  have c0 := hc 0 (by rw [← hl]; simp)
  simp only [Nat.zero_mul, Addr.add, if_true] at c0
  exact World.cell?_spot (c0.trans rfl)
theorem five_cells {W : World} {a : Addr} {i : Nat} {k : Ins} (hs : a.spot = none) (h : W.cells? 0 (a.add (i * 5)) 5 = some k.vals) :
    ∃ b off, a = ⟨b, off, none⟩ ∧ b < W.heap.size ∧ Five W b (off + i * 5) k := by
  obtain ⟨_, _, hc⟩ := World.cells?_some h
  have c0 := hc 0 (by omega)
  have c1 := hc 1 (by omega)
  have c2 := hc 2 (by omega)
  have c3 := hc 3 (by omega)
  have c4 := hc 4 (by omega)
  obtain ⟨b, off, spot⟩ := a
  obtain rfl : spot = none := hs
  rw [addr_add, addr_add] at c0 c1 c2 c3 c4
  have hlt := World.block_lt_of_cell? W _ (c0.trans rfl)
  exact ⟨b, off, rfl, hlt, c0, c1, c2, c3, c4⟩
theorem choose_list {α : Type} (p : Nat → α → Prop) : ∀ n, (∀ i, i < n → ∃ k, p i k) → ∃ L : List α, L.length = n ∧ ∀ i (h : i < L.length), p i L[i]
  | 0, _ => ⟨[], rfl, fun i h => by simp at h⟩
  | n + 1, h => by
    obtain ⟨L, hl, hL⟩ := choose_list p n (fun i hi => h i (by omega))
    obtain ⟨k, hk⟩ := h n (by omega)
    refine ⟨L ++ [k], by simp [hl], fun i hi => ?_⟩
    by_cases hin : i < L.length
    · rw [List.getElem_append_left hin]; exact hL i hin
    · have : i = n := by simp at hi; omega
      subst this
      rw [List.getElem_append_right (by omega)]
      simpa [hl] using hk
/-- What a row that came in reads as: so many elements. -/
def Long {H : Type} (d : DataW H) (n : Nat) : Prop := (d = .nil ∧ n = 0) ∨ ∃ elems spare, d = .slice elems spare ∧ elems.length = n ∧ ∀ e ∈ elems, 6 ≤ Rows.uptoBulk e
theorem open_insts {H : Type} {enc : TypeId × Value → H} {W : World} {spare : Nat → Bool} {held : Bool} {a : Option Addr} {len cap : Nat} {d : DataW H} {ps : List MemPlace}
    (h : DataW.Trod enc Try.prog W 0 spare held 22 (.slice a len cap) d ps) : ∃ L : List Ins, L.length = len ∧ LIn W.heap.size W a L ∧ OpsIn L ∧ Long d len := by
  obtain ⟨fuel, hf⟩ := h
  rcases open_slice Try.underlying22 hf with ⟨hcs, hx⟩ | ⟨x, l, c, m, n, D, Pl, hcs, _, hl, hm, hmm, hx2, hx⟩
  · simp [Value.cells] at hcs
    obtain ⟨rfl, rfl, rfl⟩ := hcs
    simp only [Prod.mk.injEq] at hx
    exact ⟨[], rfl, LIn.nil _ _ _, fun k hk => by simp at hk, .inl ⟨hx.1, rfl⟩⟩
  · simp [Value.cells] at hcs
    obtain ⟨rfl, rfl, rfl⟩ := hcs
    have hlm : len ≤ m := by rw [hmm]; split <;> omega
    have hk : ∀ i, i < len → ∃ k : Ins, W.cells? 0 (x.add (i * 5)) 5 = some k.vals ∧ (0 ≤ k.op ∧ k.op < 256) ∧ 6 ≤ Rows.uptoBulk (D i) := fun i hi => by
      obtain ⟨cs', e1, e2⟩ := hx i (by omega)
      rw [cellsInst] at e1
      obtain ⟨k, rfl, r, r2⟩ := trod_inst e2
      exact ⟨k, e1, r, r2⟩
    obtain ⟨L, hL, hp⟩ := choose_list _ _ hk
    simp only [Prod.mk.injEq] at hx2
    refine ⟨L, hL, fun i hi => ?_, fun k hk => ?_, .inr ⟨_, _, hx2.1, by simp, fun e he => ?_⟩⟩
    · have h0 : 0 < L.length := by omega
      have hs : x.spot = none := no_spot (hp 0 h0).1
      obtain ⟨b, off, rfl, hb, h5⟩ := five_cells hs (hp i hi).1
      exact ⟨b, off, rfl, hb, hb, h5⟩
    · obtain ⟨i, hi, rfl⟩ := List.getElem_of_mem hk
      exact (hp i hi).2.1
    · obtain ⟨i, hi, rfl⟩ := List.mem_map.1 he
      obtain ⟨k, _, _, r⟩ := hk i (by simpa using hi)
      exact r
/-- How long it may be: by the bulk, by the reach. -/
theorem bulk_six {H : Type} (l : List (DataW H)) (h : ∀ e ∈ l, 6 ≤ Rows.uptoBulk e) : 6 * l.length ≤ Rows.uptoBulkAll l := by
  induction l with
  | nil => simp
  | cons x r ih => have := h x (by simp); have := ih (fun e he => h e (by simp [he])); simp only [Rows.uptoBulkAll, List.length_cons]; omega
theorem bulk_long {H : Type} {d : DataW H} {n : Nat} (h : Long d n) : 6 * n ≤ Rows.uptoBulk d := by
  rcases h with ⟨_, rfl⟩ | ⟨e, s, rfl, rfl, he⟩
  · omega
  · have := bulk_six e he; simp only [Rows.uptoBulk]; omega
theorem bulk_str {H : Type} {d : DataW H} {s : List UInt8} (h : d = .lit (.string s)) : s.length ≤ Rows.uptoBulk d := by
  subst h; simp [Rows.uptoBulk]
theorem bulk_in {H : Type} {l : List (DataW H)} (hk : Rows.uptoSmall H l = true) : ∀ d ∈ l, Rows.uptoBulk d ≤ 1048576 := by
  have h : Rows.uptoBulkAll l ≤ 1048576 := of_decide_eq_true hk
  clear hk
  intro d hd
  induction l with
  | nil => simp at hd
  | cons x r ih =>
    simp only [Rows.uptoBulkAll] at h
    rcases List.mem_cons.1 hd with rfl | hd
    · omega
    · exact ih (by omega) hd
end Go.Proofs.Ytoppcikacakjcaa


/-
  Stage 6, tagmem: pages of bytes in memory, and what a call leaves as it was. No Go in sight.
-/
namespace Go.Proofs.Ytoppcikacakjcaa
namespace T
open Go.RowKit

/-- What is said of a thing, but not to the walk. -/
structure Hid (p : Prop) : Prop where
  out : p
/-- The world is as it was but for the blocks of 'S' and new ones. -/
structure Kp (S : Nat → Prop) (w w' : World) : Prop where
  os : w'.os = w.os
  tape : w'.tape = w.tape
  output : w'.output = w.output
  size : w.heap.size ≤ w'.heap.size
  block : ∀ k, k < w.heap.size → ¬ S k → w'.heap[k]? = w.heap[k]?
theorem Kp.refl (S : Nat → Prop) (w : World) : Kp S w w := ⟨rfl, rfl, rfl, Nat.le_refl _, fun _ _ _ => rfl⟩
theorem Kp.trans {S S1 : Nat → Prop} {w w1 w2 : World} (h : Kp S w w1) (h1 : Kp S1 w1 w2) (hs : ∀ k, S1 k → S k ∨ w.heap.size ≤ k) : Kp S w w2 :=
  ⟨h1.os.trans h.os, h1.tape.trans h.tape, h1.output.trans h.output, Nat.le_trans h.size h1.size, fun k hk hn => (h1.block k (Nat.lt_of_lt_of_le hk h.size) (fun q => by
    rcases hs k q with r | r
    · exact hn r
    · omega)).trans (h.block k hk hn)⟩
theorem Kp.of_below {S : Nat → Prop} {w w1 : World} (h : Below w.heap.size w w1) : Kp S w w1 := ⟨h.os, h.tape, h.output, h.size, fun k hk _ => h.block k hk⟩
theorem Kp.below {S : Nat → Prop} {w w1 : World} {B : Nat} (h : Kp S w w1) (hB : B ≤ w.heap.size) (hs : ∀ k, S k → B ≤ k) : Below B w w1 :=
  ⟨h.os, h.tape, h.output, h.size, fun k hk => h.block k (by omega) (fun q => by have := hs k q; omega)⟩
theorem Kp.mono {S S1 : Nat → Prop} {w w1 : World} (h : Kp S w w1) (hs : ∀ k, S k → S1 k ∨ w.heap.size ≤ k) : Kp S1 w w1 :=
  ⟨h.os, h.tape, h.output, h.size, fun k hk hn => h.block k hk (fun q => by
    rcases hs k q with r | r
    · exact hn r
    · omega)⟩
theorem Kp.drew (S : Nat → Prop) (w : World) : Kp S w w.drew := Kp.of_below (Below.drew (Below.refl _ w))
theorem Kp.alloc (S : Nat → Prop) (w : World) (o : Obj) : Kp S w (w.alloc o) := Kp.of_below ((Below.refl _ w).alloc (Nat.le_refl _) o)
theorem heap_set (w : World) (a : Addr) (v : Value) (k : Nat) (h : a.block ≠ k) : (w.setCell a v).heap[k]? = w.heap[k]? := by
  unfold World.setCell
  simp [Array.getElem?_modify, h]
theorem Kp.set {S : Nat → Prop} (w : World) (a : Addr) (v : Value) (h : S a.block) : Kp S w (w.setCell a v) :=
  ⟨rfl, rfl, rfl, by simp, fun k _ hn => heap_set w a v k (fun e => hn (e ▸ h))⟩
theorem cell_of_block {w w' : World} {k : Nat} (h : w'.heap[k]? = w.heap[k]?) (o : Nat) : w'.cell? ⟨k, o, none⟩ = w.cell? ⟨k, o, none⟩ := by
  simp only [World.cell?, h]
theorem frozen_of_block {w w' : World} {k : Nat} (h : w'.heap[k]? = w.heap[k]?) (o : Nat) : w'.frozen? ⟨k, o, none⟩ = w.frozen? ⟨k, o, none⟩ := by
  simp only [World.frozen?, h]
theorem cso {w : World} {k o k' o' : Nat} {v : Value} (h : k = k' → o ≠ o') : (w.setCell ⟨k, o, none⟩ v).cell? ⟨k', o', none⟩ = w.cell? ⟨k', o', none⟩ :=
  World.cell?_setCell_other (w := w) (a := ⟨k, o, none⟩) (v := v) (b := ⟨k', o', none⟩) (by simp; exact h)
/-- One byte more. -/
def upd (b : Nat → UInt8) (a : Nat) (v : UInt8) : Nat → UInt8 := fun x => if x = a then v else b x
def ptr (o : Option Nat) : Value := .pointer (o.map fun k => ⟨k, 0, none⟩)
def bv (x : UInt8) : Value := .int .u8 x.toNat
/-- Pages of bytes: their box at 'a', the pages in blocks of 'S'. -/
structure Pg (S : Nat → Prop) (w : World) (a : Nat) (pg : Nat → Option Nat) (b : Nat → UInt8) : Prop where
  lt : a < w.heap.size
  no : ¬ S a
  own : ∀ k, S k → k < w.heap.size
  box : ∀ i, i < 64 → w.cell? ⟨a, i, none⟩ = some (ptr (pg i)) ∧ w.frozen? ⟨a, i, none⟩ = false
  page : ∀ i k, i < 64 → pg i = some k → S k ∧ k < w.heap.size ∧ ∀ j, j < 1024 → w.cell? ⟨k, j, none⟩ = some (bv (b (i * 1024 + j))) ∧ w.frozen? ⟨k, j, none⟩ = false
  zero : ∀ i, i < 64 → pg i = none → ∀ j, j < 1024 → b (i * 1024 + j) = 0
  inj : ∀ i j k, i < 64 → j < 64 → pg i = some k → pg j = some k → i = j
def PgIn (S : Nat → Prop) (w : World) (a : Nat) (b : Nat → UInt8) : Prop := ∃ pg, Pg S w a pg b
theorem Pg.keep {S : Nat → Prop} {w w' : World} {a : Nat} {pg : Nat → Option Nat} {b : Nat → UInt8} (h : Pg S w a pg b) (hs : w.heap.size ≤ w'.heap.size)
    (hb : ∀ i, i < 64 → w'.cell? ⟨a, i, none⟩ = w.cell? ⟨a, i, none⟩ ∧ w'.frozen? ⟨a, i, none⟩ = w.frozen? ⟨a, i, none⟩) (hk : ∀ k, S k → k < w.heap.size → w'.heap[k]? = w.heap[k]?) : Pg S w' a pg b :=
  ⟨Nat.lt_of_lt_of_le h.lt hs, h.no, fun k q => Nat.lt_of_lt_of_le (h.own k q) hs, fun i hi => ⟨(hb i hi).1.trans (h.box i hi).1, (hb i hi).2.trans (h.box i hi).2⟩,
   fun i k hi he => by
    obtain ⟨h1, h2, h3⟩ := h.page i k hi he
    exact ⟨h1, Nat.lt_of_lt_of_le h2 hs, fun j hj => ⟨(cell_of_block (hk k h1 h2) j).trans (h3 j hj).1, (frozen_of_block (hk k h1 h2) j).trans (h3 j hj).2⟩⟩, h.zero, h.inj⟩
theorem PgIn.keep {S : Nat → Prop} {w w' : World} {a : Nat} {b : Nat → UInt8} (h : PgIn S w a b) (hs : w.heap.size ≤ w'.heap.size)
    (hb : ∀ i, i < 64 → w'.cell? ⟨a, i, none⟩ = w.cell? ⟨a, i, none⟩ ∧ w'.frozen? ⟨a, i, none⟩ = w.frozen? ⟨a, i, none⟩) (hk : ∀ k, S k → k < w.heap.size → w'.heap[k]? = w.heap[k]?) : PgIn S w' a b := by
  obtain ⟨pg, h⟩ := h
  exact ⟨pg, h.keep hs hb hk⟩
/-- What a call on pages leaves: all but the box's first cells, the pages, and new blocks. -/
structure Fr (S S' : Nat → Prop) (w w' : World) (a : Nat) : Prop where
  up : ∀ k, S k → S' k
  new : ∀ k, S' k → S k ∨ w.heap.size ≤ k
  kp : Kp (fun k => k = a ∨ S k) w w'
  rest : ∀ o, 64 ≤ o → w'.cell? ⟨a, o, none⟩ = w.cell? ⟨a, o, none⟩ ∧ w'.frozen? ⟨a, o, none⟩ = w.frozen? ⟨a, o, none⟩
theorem Fr.refl (S : Nat → Prop) (w : World) (a : Nat) : Fr S S w w a := ⟨fun _ h => h, fun _ h => .inl h, Kp.refl _ w, fun _ _ => ⟨rfl, rfl⟩⟩
theorem Fr.trans {S S1 S2 : Nat → Prop} {w w1 w2 : World} {a : Nat} (h : Fr S S1 w w1 a) (g : Fr S1 S2 w1 w2 a) : Fr S S2 w w2 a :=
  ⟨fun k q => g.up k (h.up k q), fun k q => by
    rcases g.new k q with r | r
    · exact h.new k r
    · exact .inr (Nat.le_trans h.kp.size r),
   h.kp.trans g.kp (fun k q => by
    rcases q with q | q
    · exact .inl (.inl q)
    · rcases h.new k q with r | r
      · exact .inl (.inr r)
      · exact .inr r),
   fun o ho => ⟨(g.rest o ho).1.trans (h.rest o ho).1, (g.rest o ho).2.trans (h.rest o ho).2⟩⟩
end T
end Go.Proofs.Ytoppcikacakjcaa
