import Derived.Test.YtdmkedpnkejpbaaDoorP33
/-
  Stage 3, instr: 'fields': an instruction of raw numbers.
-/
namespace Go.Proofs.YtdmkedpnkejpbaaDoor
open Go.RowKit

/-- Raw numbers are in their ranges. -/
def InRaw (r : Ins) : Prop := R64 r.op ∧ R64 r.a ∧ R64 r.b ∧ R64 r.c ∧ R64 r.m
theorem fF_step (op : Int) (r : Ins) (l : UInt8) (s : List UInt8) (n n' : Int) (i i' : Ins) (hn : (if (l.toNat : Int) = 114 then n + 1 else n) = n') (hi : stepM op r l.toNat n i = i') :
    fF op r (l :: s) n i = fF op r s n' i' := by
  subst hn hi; rfl
end Go.Proofs.YtdmkedpnkejpbaaDoor


/-
  Stage 3, instr: 'made': instructions of raw numbers.
-/
namespace Go.Proofs.YtdmkedpnkejpbaaDoor
open Go.RowKit

theorem infoOp : (Tryd.prog.info? 72).map (fun i => (i.zero, i.size, i.bytes)) = some (some (.int .u8 0), 1, 1) := by kernel_rfl
def OOwn (w : World) (base : Nat) (v : Value) (O : List Int) : Prop := w.ownsRow base 72 1 v O.length (O.map (Value.int .u8))
/-- The operations below a number. -/
def opsL (n : Nat) : List Int := ((List.range n).filter fun k : Nat => !(nameOf (k : Int)).isEmpty).map fun k : Nat => (k : Int)
theorem opsL_next (n : Nat) (h : (nameOf n).isEmpty = false) : opsL (n + 1) = opsL n ++ [(n : Int)] := by
  simp [opsL, List.range_succ, List.filter_append, h]
theorem opsL_same (n : Nat) (h : (nameOf n).isEmpty = true) : opsL (n + 1) = opsL n := by
  simp [opsL, List.range_succ, List.filter_append, h]
theorem opsL_len (n : Nat) : (opsL n).length ≤ n := by
  unfold opsL
  rw [List.length_map]
  exact Nat.le_trans (List.length_filter_le _ _) (by simp)
theorem opsL_all : (opsL 256).length = 52 := by kernel_rfl
/-- The operation that a raw number picks. -/
def opK (k : Int) : Int := (opsL 256).getD (pickF k 52).toNat 0
theorem opK_in (k : Int) : (0 ≤ opK k ∧ opK k < 256) ∧ nameOf (opK k) ≠ [] := by
  have h : (opsL 256).all (fun o => decide (0 ≤ o) && decide (o < 256) && !(nameOf o).isEmpty) = true := by kernel_rfl
  have r := pickF_range k 52 (by omega)
  have hl : (pickF k 52).toNat < (opsL 256).length := by rw [opsL_all]; omega
  have hm : opK k ∈ opsL 256 := by
    unfold opK
    rw [List.getD_eq_getElem?_getD, List.getElem?_eq_getElem hl]
    exact List.getElem_mem hl
  have := List.all_eq_true.1 h _ hm
  simp only [Bool.and_eq_true, decide_eq_true_eq, Bool.not_eq_true'] at this
  exact ⟨this.1, by simpa using this.2⟩
def madeR (r : Ins) : Ins := madeF r (opK r.op)
theorem madeR_right (r : Ins) : (madeR r).right = 0 := made_right r _ (opK_in r.op).1.2 (opK_in r.op).2
theorem madeR_op (r : Ins) : 0 ≤ (madeR r).op ∧ (madeR r).op < 256 := by unfold madeR; rw [made_op]; exact (opK_in r.op).1
theorem made_allR (R : List Ins) : AllR (R.map madeR) := fun k hk => by
  obtain ⟨r, _, rfl⟩ := List.mem_map.1 hk; exact madeR_right r
theorem made_ops (R : List Ins) : OpsIn (R.map madeR) := fun k hk => by
  obtain ⟨r, _, rfl⟩ := List.mem_map.1 hk; exact madeR_op r
/-- Raw numbers that came in. -/
def FiveR (w : World) (b off : Nat) (k : Ins) : Prop :=
  w.cell? ⟨b, off, none⟩ = some (.int .i64 k.op) ∧ w.cell? ⟨b, off + 1, none⟩ = some (.int .i64 k.a) ∧ w.cell? ⟨b, off + 1 + 1, none⟩ = some (.int .i64 k.b) ∧ w.cell? ⟨b, off + 1 + 1 + 1, none⟩ = some (.int .i64 k.c) ∧ w.cell? ⟨b, off + 1 + 1 + 1 + 1, none⟩ = some (.int .i64 k.m)
def RawIn (B : Nat) (w : World) (a : Option Addr) (R : List Ins) : Prop := ∀ i (h : i < R.length), ∃ b off : Nat, a = some ⟨b, off, none⟩ ∧ b < B ∧ b < w.heap.size ∧ FiveR w b (off + i * 5) R[i] ∧ InRaw R[i]
theorem RawIn.below {B : Nat} {w w1 : World} {a : Option Addr} {R : List Ins} (h : RawIn B w a R) (hb : Below B w w1) : RawIn B w1 a R := fun i hi => by
  obtain ⟨b, off, ha, h1, h2, h3, h4⟩ := h i hi
  exact ⟨b, off, ha, h1, Nat.lt_of_lt_of_le h2 hb.size, ⟨(hb.cell (p := ⟨b, _, none⟩) h1).trans h3.1, (hb.cell (p := ⟨b, _, none⟩) h1).trans h3.2.1, (hb.cell (p := ⟨b, _, none⟩) h1).trans h3.2.2.1, (hb.cell (p := ⟨b, _, none⟩) h1).trans h3.2.2.2.1, (hb.cell (p := ⟨b, _, none⟩) h1).trans h3.2.2.2.2⟩, h4⟩
theorem OOwn.cell {w : World} {base g cap : Nat} {O : List Int} (h : OOwn w base (.slice (some ⟨g, 0, none⟩) O.length cap) O) (i : Nat) (hi : i < O.length) : w.cell? ⟨g, i, none⟩ = some (.int .u8 O[i]) := by
  have hc := World.ownsRow.cells h (g := g) rfl i (.int .u8 O[i]) (by simp [hi])
  have ea : (⟨g, 0, none⟩ : Addr).add i = ⟨g, i, none⟩ := by by_cases h0 : i = 0 <;> simp [Addr.add, h0]
  rwa [ea] at hc
end Go.Proofs.YtdmkedpnkejpbaaDoor
