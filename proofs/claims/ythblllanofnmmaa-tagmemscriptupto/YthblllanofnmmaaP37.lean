import Derived.Test.YthblllanofnmmaaP36
import Derived.Laws.MakeOwn
import Derived.Laws.IdiomStrings
/-
  Stage 6, tagmem: rows of truth values and of capabilities, as make lays them.
-/
namespace Go.Proofs.Ythblllanofnmmaa
namespace T
open Go.RowKit

def rowBool : Array Value := madeCells (Value.cells (.bool false)) 4096
def rowCap : Array Value := madeCells (Value.cells Cp.zero.agg) 20480
theorem infoBool : (Try.prog.info? 4).map (fun i => (i.zero, i.size, i.bytes)) = some (some (.bool false), 1, 1) := by kernel_rfl
theorem infoCap : (Try.prog.info? 45).map (fun i => (i.zero, i.size, i.bytes)) = some (some Cp.zero.agg, 5, 40) := by kernel_rfl
theorem make_bool (w : World) : (Instr.makeSlice 93 (.int .i64 4096) (.int .i64 4096)).run Try.prog w = .ok (.slice (some ⟨w.heap.size, 0, none⟩) 4096 4096) (w.alloc (.cells rowBool 4)) := by
  obtain ⟨i0, hi, hz0, hz1, hz2⟩ := info_parts' infoBool
  have := run_makeSlice (P := Try.prog) w 93 4 i0 (.bool false) Try.underlying93 hi hz0 .i64 .i64 4096 4096 (by decide) (by decide) (by rw [hz1]; decide) (by rw [hz2]; decide) (by decide)
  rw [hz1] at this
  exact this
theorem make_cap (w : World) : (Instr.makeSlice 94 (.int .i64 4096) (.int .i64 4096)).run Try.prog w = .ok (.slice (some ⟨w.heap.size, 0, none⟩) 4096 4096) (w.alloc (.cells rowCap 45)) := by
  obtain ⟨i0, hi, hz0, hz1, hz2⟩ := info_parts' infoCap
  have := run_makeSlice (P := Try.prog) w 94 45 i0 Cp.zero.agg Try.underlying94 hi hz0 .i64 .i64 4096 4096 (by decide) (by decide) (by rw [hz1]; decide) (by rw [hz2]; decide) (by decide)
  rw [hz1] at this
  exact this
theorem rowBool_at (g : Nat) (h : g < 4096) : rowBool[g]? = some (.bool false) := by
  simp [rowBool, madeCells, h, Value.cells, Nat.mod_one]
theorem rowCap_at (g r : Nat) (h : g < 4096) (hr : r < 5) : rowCap[g * 5 + r]? = some ((Value.cells Cp.zero.agg)[r]!) := by
  have e : (g * 5 + r) % 5 = r := by omega
  have e2 : (Value.cells Cp.zero.agg).size = 5 := rfl
  unfold rowCap madeCells
  rw [Array.getElem?_map, Array.getElem?_range, if_pos (by omega), Option.map_some, e2, e]
/-- A row of 4096 truth values. -/
structure BRow (w : World) (k : Nat) (tg : Nat → Bool) : Prop where
  lt : k < w.heap.size
  at_ : ∀ g, g < 4096 → w.cell? ⟨k, g, none⟩ = some (.bool (tg g)) ∧ w.frozen? ⟨k, g, none⟩ = false
/-- A row of 4096 capabilities. -/
def Fiv (w : World) (k o : Nat) (c : Cp) : Prop :=
  w.cell? ⟨k, o, none⟩ = some (.int .u64 c.b) ∧ w.cell? ⟨k, o + 1, none⟩ = some (.int .u64 c.e) ∧ w.cell? ⟨k, o + 1 + 1, none⟩ = some (.int .u64 c.c) ∧ w.cell? ⟨k, o + 1 + 1 + 1, none⟩ = some (.int .u8 c.p) ∧ w.cell? ⟨k, o + 1 + 1 + 1 + 1, none⟩ = some (.int .i64 c.s)
structure CRow (w : World) (k : Nat) (cp : Nat → Cp) : Prop where
  lt : k < w.heap.size
  at_ : ∀ g, g < 4096 → Fiv w k (g * 5) (cp g)
  fr : ∀ o, w.frozen? ⟨k, o, none⟩ = false
theorem BRow.block {w w1 : World} {k : Nat} {tg : Nat → Bool} (h : BRow w k tg) (hs : w.heap.size ≤ w1.heap.size) (hb : w1.heap[k]? = w.heap[k]?) : BRow w1 k tg :=
  ⟨Nat.lt_of_lt_of_le h.lt hs, fun g hg => ⟨(cell_of_block hb g).trans (h.at_ g hg).1, (frozen_of_block hb g).trans (h.at_ g hg).2⟩⟩
theorem CRow.block {w w1 : World} {k : Nat} {cp : Nat → Cp} (h : CRow w k cp) (hs : w.heap.size ≤ w1.heap.size) (hb : w1.heap[k]? = w.heap[k]?) : CRow w1 k cp :=
  ⟨Nat.lt_of_lt_of_le h.lt hs, fun g hg => by
    have := h.at_ g hg
    unfold Fiv at *
    simp only [cell_of_block hb]
    exact this, fun o => (frozen_of_block hb o).trans (h.fr o)⟩
theorem BRow.new (w : World) (t : TypeId) : BRow (w.alloc (.cells rowBool t)) w.heap.size (fun _ => false) := by
  have h := At.new w rowBool t
  exact ⟨h.1, fun g hg => ⟨(h.2.1 g).trans (rowBool_at g hg), h.2.2 g⟩⟩
theorem CRow.new (w : World) (t : TypeId) : CRow (w.alloc (.cells rowCap t)) w.heap.size (fun _ => Cp.zero) := by
  have h := At.new w rowCap t
  refine ⟨h.1, fun g hg => ⟨?_, ?_, ?_, ?_, ?_⟩, fun o => h.2.2 o⟩
  · exact (h.2.1 _).trans (rowCap_at g 0 hg (by omega))
  · exact (h.2.1 _).trans (rowCap_at g 1 hg (by omega))
  · exact (h.2.1 _).trans (rowCap_at g 2 hg (by omega))
  · exact (h.2.1 _).trans (rowCap_at g 3 hg (by omega))
  · exact (h.2.1 _).trans (rowCap_at g 4 hg (by omega))
def updG (tg : Nat → Bool) (g : Nat) (v : Bool) : Nat → Bool := fun x => if x = g then v else tg x
def updC (cp : Nat → Cp) (g : Nat) (v : Cp) : Nat → Cp := fun x => if x = g then v else cp x
theorem BRow.set {w : World} {k : Nat} {tg : Nat → Bool} (h : BRow w k tg) (g : Nat) (v : Bool) (hg : g < 4096) : BRow (w.setCell ⟨k, g, none⟩ (.bool v)) k (updG tg g v) := by
  refine ⟨by simpa using h.lt, fun x hx => ⟨?_, by simpa using (h.at_ x hx).2⟩⟩
  by_cases q : x = g
  · subst q
    rw [css (h.at_ x hx).1]; simp [updG]
  · rw [cso (fun _ r => q r.symm), (h.at_ x hx).1]; simp [updG, q]
/-- A capability is written into a row. -/
def set5 (w : World) (k o : Nat) (c : Cp) : World :=
  ((((w.setCell ⟨k, o, none⟩ (.int .u64 c.b)).setCell ⟨k, o + 1, none⟩ (.int .u64 c.e)).setCell ⟨k, o + 1 + 1, none⟩ (.int .u64 c.c)).setCell ⟨k, o + 1 + 1 + 1, none⟩ (.int .u8 c.p)).setCell ⟨k, o + 1 + 1 + 1 + 1, none⟩ (.int .i64 c.s)
theorem set5_size (w : World) (k o : Nat) (c : Cp) : (set5 w k o c).heap.size = w.heap.size := by simp [set5]
theorem set5_other (w : World) (k o k' o' : Nat) (c : Cp) (h : k = k' → o' < o ∨ o + 5 ≤ o') : (set5 w k o c).cell? ⟨k', o', none⟩ = w.cell? ⟨k', o', none⟩ := by
  unfold set5
  rw [cso (fun q => by have := h q; omega), cso (fun q => by have := h q; omega), cso (fun q => by have := h q; omega), cso (fun q => by have := h q; omega), cso (fun q => by have := h q; omega)]
theorem set5_frozen (w : World) (k o k' o' : Nat) (c : Cp) : (set5 w k o c).frozen? ⟨k', o', none⟩ = w.frozen? ⟨k', o', none⟩ := by simp [set5]
theorem set5_fiv {w : World} {k o : Nat} {d : Cp} (h : Fiv w k o d) (c : Cp) : Fiv (set5 w k o c) k o c := by
  obtain ⟨c0, c1, c2, c3, c4⟩ := h
  unfold set5
  refine ⟨?_, ?_, ?_, ?_, ?_⟩
  · rw [cso (fun _ => by omega), cso (fun _ => by omega), cso (fun _ => by omega), cso (fun _ => by omega), css c0]
  · rw [cso (fun _ => by omega), cso (fun _ => by omega), cso (fun _ => by omega), css ((cso (fun _ => by omega)).trans c1)]
  · rw [cso (fun _ => by omega), cso (fun _ => by omega), css ((cso (fun _ => by omega)).trans ((cso (fun _ => by omega)).trans c2))]
  · rw [cso (fun _ => by omega), css ((cso (fun _ => by omega)).trans ((cso (fun _ => by omega)).trans ((cso (fun _ => by omega)).trans c3)))]
  · rw [css ((cso (fun _ => by omega)).trans ((cso (fun _ => by omega)).trans ((cso (fun _ => by omega)).trans ((cso (fun _ => by omega)).trans c4))))]
theorem set5_kp (S : Nat → Prop) (w : World) (k o : Nat) (c : Cp) (h : S k) : Kp S w (set5 w k o c) := by
  unfold set5
  exact ((((Kp.set w ⟨k, _, none⟩ _ h).trans (Kp.set _ ⟨k, _, none⟩ _ h) (fun _ q => .inl q)).trans (Kp.set _ ⟨k, _, none⟩ _ h) (fun _ q => .inl q)).trans (Kp.set _ ⟨k, _, none⟩ _ h) (fun _ q => .inl q)).trans (Kp.set _ ⟨k, _, none⟩ _ h) (fun _ q => .inl q)
theorem CRow.set {w : World} {k : Nat} {cp : Nat → Cp} (h : CRow w k cp) (g : Nat) (c : Cp) (hg : g < 4096) : CRow (set5 w k (g * 5) c) k (updC cp g c) := by
  refine ⟨by rw [set5_size]; exact h.lt, fun x hx => ?_, fun o => by rw [set5_frozen]; exact h.fr o⟩
  by_cases q : x = g
  · subst q
    have := set5_fiv (h.at_ x hx) c
    simpa [updC] using this
  · have e : updC cp g c x = cp x := by simp [updC, q]
    rw [e]
    obtain ⟨c0, c1, c2, c3, c4⟩ := h.at_ x hx
    exact ⟨(set5_other _ _ _ _ _ _ (fun _ => by omega)).trans c0, (set5_other _ _ _ _ _ _ (fun _ => by omega)).trans c1, (set5_other _ _ _ _ _ _ (fun _ => by omega)).trans c2, (set5_other _ _ _ _ _ _ (fun _ => by omega)).trans c3, (set5_other _ _ _ _ _ _ (fun _ => by omega)).trans c4⟩
/-- The two memories and the two rows of the statement. -/
structure Tt (W0 W : World) (a f kt kc : Nat) (b : Nat → UInt8) (t : Nat → Option Cp) (tg : Nat → Bool) (cp : Nat → Cp) : Prop where
  two : ∃ S, Two S W a f b b t ∧ ∀ k, S k → W0.heap.size ≤ k ∧ k ≠ kt ∧ k ≠ kc
  br : BRow W kt tg
  cr : CRow W kc cp
  ne : kt ≠ kc ∧ W0.heap.size ≤ kt ∧ W0.heap.size ≤ kc
  be : Below W0.heap.size W0 W
theorem Tt.gr {W0 W W1 : World} {a f kt kc : Nat} {b : Nat → UInt8} {t : Nat → Option Cp} {tg : Nat → Bool} {cp : Nat → Cp} (h : Tt W0 W a f kt kc b t tg cp) (hb : Below W.heap.size W W1) : Tt W0 W1 a f kt kc b t tg cp := by
  obtain ⟨⟨S, h1, h2⟩, h3, h4, h5, h6⟩ := h
  exact ⟨⟨S, h1.gr hb, h2⟩, h3.block hb.size (hb.block _ h3.lt), h4.block hb.size (hb.block _ h4.lt), h5, h6.trans (hb.mono h6.size)⟩
theorem Tt.setG {W0 W : World} {a f kt kc : Nat} {b : Nat → UInt8} {t : Nat → Option Cp} {tg : Nat → Bool} {cp : Nat → Cp} (h : Tt W0 W a f kt kc b t tg cp) (g : Nat) (v : Bool) (hg : g < 4096) :
    Tt W0 (W.setCell ⟨kt, g, none⟩ (.bool v)) a f kt kc b t (updG tg g v) cp := by
  obtain ⟨⟨S, h1, h2⟩, h3, h4, h5, h6⟩ := h
  have hk := Kp.set (S := fun k => k = kt) W ⟨kt, g, none⟩ (.bool v) rfl
  exact ⟨⟨S, h1.keep hk (fun k q r => (h2 k q).2.1 r), h2⟩, h3.set g v hg, h4.block hk.size (hk.block _ h4.lt (fun q => h5.1 q.symm)), h5, h6.trans (hk.below h6.size (fun k q => by omega))⟩
theorem Tt.setC {W0 W : World} {a f kt kc : Nat} {b : Nat → UInt8} {t : Nat → Option Cp} {tg : Nat → Bool} {cp : Nat → Cp} (h : Tt W0 W a f kt kc b t tg cp) (g : Nat) (c : Cp) (hg : g < 4096) :
    Tt W0 (set5 W kc (g * 5) c) a f kt kc b t tg (updC cp g c) := by
  obtain ⟨⟨S, h1, h2⟩, h3, h4, h5, h6⟩ := h
  have hk := set5_kp (fun k => k = kc) W kc (g * 5) c rfl
  exact ⟨⟨S, h1.keep hk (fun k q r => (h2 k q).2.2 r), h2⟩, h3.block hk.size (hk.block _ h3.lt (fun q => h5.1 q)), h4.set g c hg, h5, h6.trans (hk.below h6.size (fun k q => by omega))⟩
theorem Tt.tg {W0 W : World} {a f kt kc : Nat} {b : Nat → UInt8} {t : Nat → Option Cp} {tg : Nat → Bool} {cp : Nat → Cp} (h : Tt W0 W a f kt kc b t tg cp) : ∃ P, TgIn P W a b t := by
  obtain ⟨S, h1, _⟩ := h.two
  obtain ⟨P, q, _⟩ := h1.tg
  exact ⟨P, q⟩
/-- A write's cells, in each world that leaves them. -/
theorem eightAt {w : World} {la : Option Addr} {L : List Wr} (h : EIn 8 Wr.vals w la L) (i : Nat) (hi : i < L.length) : ∃ b off : Nat, la = some ⟨b, off, none⟩ ∧ b < w.heap.size ∧ ∀ W, Below w.heap.size w W → W.cell? ⟨b, off + i * 8, none⟩ = some (.int .i64 L[i].a) ∧ W.cell? ⟨b, off + i * 8 + 1, none⟩ = some (.int .i64 L[i].k) ∧ W.cell? ⟨b, off + i * 8 + 1 + 1, none⟩ = some (.int .u64 L[i].n) ∧ W.cell? ⟨b, off + i * 8 + 1 + 1 + 1, none⟩ = some (.int .u64 L[i].c.b) ∧ W.cell? ⟨b, off + i * 8 + 1 + 1 + 1 + 1, none⟩ = some (.int .u64 L[i].c.e) ∧ W.cell? ⟨b, off + i * 8 + 1 + 1 + 1 + 1 + 1, none⟩ = some (.int .u64 L[i].c.c) ∧ W.cell? ⟨b, off + i * 8 + 1 + 1 + 1 + 1 + 1 + 1, none⟩ = some (.int .u8 L[i].c.p) ∧ W.cell? ⟨b, off + i * 8 + 1 + 1 + 1 + 1 + 1 + 1 + 1, none⟩ = some (.int .i64 L[i].c.s) := by
  obtain ⟨b, off, h1, h2, h3⟩ := h i hi
  have hc : ∀ W, Below w.heap.size w W → ∀ j v, (Wr.vals L[i])[j]? = some v → W.cell? ⟨b, off + i * 8 + j, none⟩ = some v := fun W q j v r => (q.cell (p := ⟨b, _, none⟩) h2).trans (h3 j v r)
  exact ⟨b, off, h1, h2, fun W q => ⟨hc W q 0 _ rfl, hc W q 1 _ rfl, hc W q 2 _ rfl, hc W q 3 _ rfl, hc W q 4 _ rfl, hc W q 5 _ rfl, hc W q 6 _ rfl, hc W q 7 _ rfl⟩⟩
theorem runC_pos (L : List Wr) (h : ∀ x ∈ L, x.Ok) : ∀ g, 0 ≤ (runC L g).c := by
  unfold runC
  suffices H : ∀ (M : List Wr) (c : Nat → Cp), (∀ x ∈ M, x.Ok) → (∀ g, 0 ≤ (c g).c) → ∀ g, 0 ≤ (M.foldl tbC c g).c from H L _ h (fun g => by simp [Cp.zero])
  intro M
  induction M with
  | nil => intro c _ h; exact h
  | cons x M ih =>
    intro c h1 h2
    refine ih _ (fun y hy => h1 y (by simp [hy])) (fun g => ?_)
    unfold tbC
    split
    · exact (h1 x (by simp)).rc.rc.1
    · exact h2 g
theorem granB_mul (k : Nat) (h : k < 4096) : granB (16 * k) = true := by simp [granB]; omega
theorem drewN_size (w : World) (n : Nat) : (w.drewN n).heap.size = w.heap.size := by
  induction n with
  | zero => rfl
  | succ n ih => exact ih
theorem at_grown {w w1 : World} {k : Nat} {cs : Array Value} {row : Option Nat} (h : At w k cs) (hg : w.grownBy w1 row) (hk : row ≠ some k) : At w1 k cs := by
  have hb := hg.block k h.1 (fun e => hk e.symm)
  exact ⟨Nat.lt_of_lt_of_le h.1 hg.size, fun o => (cell_of_block hb o).trans (h.2.1 o), fun o => (frozen_of_block hb o).trans (h.2.2 o)⟩
theorem tbG_eq (tg : Nat → Bool) (x : Wr) : tbG tg x = if x.kind = 1 then updG (updG tg (x.ad / 16) false) ((x.ad + 7) / 16) false else updG tg (x.ad / 16) (decide (x.kind = 2)) := by
  funext g
  unfold tbG
  by_cases h : x.kind = 1
  · simp [h, updG]
  · simp [h, updG]
theorem tbC_eq (cp : Nat → Cp) (x : Wr) : tbC cp x = updC cp (x.ad / 16) x.c := rfl
end T
end Go.Proofs.Ythblllanofnmmaa


/-
  Stage 6, tagmem: the document's memory: loads, stores, bytes.
-/
namespace Go.Proofs.Ythblllanofnmmaa
namespace T
open Go.RowKit

/-- A row of all bytes. -/
structure YRow (w : World) (k : Nat) (b : Nat → UInt8) : Prop where
  lt : k < w.heap.size
  at_ : ∀ x, x < 65536 → w.cell? ⟨k, x, none⟩ = some (bv (b x)) ∧ w.frozen? ⟨k, x, none⟩ = false
theorem YRow.block {w w1 : World} {k : Nat} {b : Nat → UInt8} (h : YRow w k b) (hs : w.heap.size ≤ w1.heap.size) (hb : w1.heap[k]? = w.heap[k]?) : YRow w1 k b :=
  ⟨Nat.lt_of_lt_of_le h.lt hs, fun g hg => ⟨(cell_of_block hb g).trans (h.at_ g hg).1, (frozen_of_block hb g).trans (h.at_ g hg).2⟩⟩
theorem YRow.set {w : World} {k : Nat} {b : Nat → UInt8} (h : YRow w k b) (g : Nat) (v : UInt8) (hg : g < 65536) : YRow (w.setCell ⟨k, g, none⟩ (bv v)) k (upd b g v) := by
  refine ⟨by simpa using h.lt, fun x hx => ⟨?_, by simpa using (h.at_ x hx).2⟩⟩
  by_cases q : x = g
  · subst q
    rw [css (h.at_ x hx).1]; simp [upd]
  · rw [cso (fun _ r => q r.symm), (h.at_ x hx).1]; simp [upd, q]
/-- The document's memory: its box, its three rows. -/
structure Dm (w : World) (d kb kt kc : Nat) (b : Nat → UInt8) (tg : Nat → Bool) (cp : Nat → Cp) : Prop where
  lt : d < w.heap.size
  c0 : w.cell? ⟨d, 0, none⟩ = some (.slice (some ⟨kb, 0, none⟩) 65536 65536)
  c1 : w.cell? ⟨d, 1, none⟩ = some (.slice (some ⟨kt, 0, none⟩) 4096 4096)
  c2 : w.cell? ⟨d, 2, none⟩ = some (.slice (some ⟨kc, 0, none⟩) 4096 4096)
  yr : YRow w kb b
  br : BRow w kt tg
  cr : CRow w kc cp
  ne : d ≠ kb ∧ d ≠ kt ∧ d ≠ kc ∧ kb ≠ kt ∧ kb ≠ kc ∧ kt ≠ kc
structure DIn (S : Nat → Prop) (w : World) (d : Nat) (b : Nat → UInt8) (tg : Nat → Bool) (cp : Nat → Cp) : Prop where
  go : ∃ kb kt kc, Dm w d kb kt kc b tg cp ∧ ∀ k, S k ↔ k = d ∨ k = kb ∨ k = kt ∨ k = kc
theorem DIn.lt {S : Nat → Prop} {w : World} {d : Nat} {b : Nat → UInt8} {tg : Nat → Bool} {cp : Nat → Cp} (h : DIn S w d b tg cp) : ∀ k, S k → k < w.heap.size := by
  obtain ⟨kb, kt, kc, h1, h2⟩ := h.go
  intro k q
  rcases (h2 k).1 q with r | r | r | r
  · subst r; exact h1.lt
  · subst r; exact h1.yr.lt
  · subst r; exact h1.br.lt
  · subst r; exact h1.cr.lt
theorem DIn.keep {S S1 : Nat → Prop} {w w' : World} {d : Nat} {b : Nat → UInt8} {tg : Nat → Bool} {cp : Nat → Cp} (h : DIn S w d b tg cp) (hk : Kp S1 w w') (hd : ∀ k, S k → ¬ S1 k) : DIn S w' d b tg cp := by
  have hl := h.lt
  obtain ⟨kb, kt, kc, h1, h2⟩ := h.go
  have hb : ∀ k, S k → w'.heap[k]? = w.heap[k]? := fun k q => hk.block k (hl k q) (hd k q)
  have e0 := hb d ((h2 d).2 (.inl rfl))
  exact ⟨kb, kt, kc, ⟨Nat.lt_of_lt_of_le h1.lt hk.size, (cell_of_block e0 0).trans h1.c0, (cell_of_block e0 1).trans h1.c1, (cell_of_block e0 2).trans h1.c2, h1.yr.block hk.size (hb kb ((h2 kb).2 (.inr (.inl rfl)))), h1.br.block hk.size (hb kt ((h2 kt).2 (.inr (.inr (.inl rfl))))), h1.cr.block hk.size (hb kc ((h2 kc).2 (.inr (.inr (.inr rfl))))), h1.ne⟩, h2⟩
theorem DIn.gr {S : Nat → Prop} {w w' : World} {d : Nat} {b : Nat → UInt8} {tg : Nat → Bool} {cp : Nat → Cp} (h : DIn S w d b tg cp) (hb : Below w.heap.size w w') : DIn S w' d b tg cp := h.keep (S1 := fun _ => False) (Kp.of_below hb) (fun _ _ q => q)
theorem Dm.setY {w : World} {d kb kt kc : Nat} {b : Nat → UInt8} {tg : Nat → Bool} {cp : Nat → Cp} (h : Dm w d kb kt kc b tg cp) (g : Nat) (v : UInt8) (hg : g < 65536) : Dm (w.setCell ⟨kb, g, none⟩ (bv v)) d kb kt kc (upd b g v) tg cp := by
  obtain ⟨n1, n2, n3, n4, n5, n6⟩ := h.ne
  have hk := Kp.set (S := fun k => k = kb) w ⟨kb, g, none⟩ (bv v) rfl
  exact ⟨by simpa using h.lt, (cso (fun q => absurd q.symm n1)).trans h.c0, (cso (fun q => absurd q.symm n1)).trans h.c1, (cso (fun q => absurd q.symm n1)).trans h.c2, h.yr.set g v hg, h.br.block hk.size (hk.block _ h.br.lt (fun q => n4 q.symm)), h.cr.block hk.size (hk.block _ h.cr.lt (fun q => n5 q.symm)), h.ne⟩
theorem Dm.setG {w : World} {d kb kt kc : Nat} {b : Nat → UInt8} {tg : Nat → Bool} {cp : Nat → Cp} (h : Dm w d kb kt kc b tg cp) (g : Nat) (v : Bool) (hg : g < 4096) : Dm (w.setCell ⟨kt, g, none⟩ (.bool v)) d kb kt kc b (updG tg g v) cp := by
  obtain ⟨n1, n2, n3, n4, n5, n6⟩ := h.ne
  have hk := Kp.set (S := fun k => k = kt) w ⟨kt, g, none⟩ (.bool v) rfl
  exact ⟨by simpa using h.lt, (cso (fun q => absurd q.symm n2)).trans h.c0, (cso (fun q => absurd q.symm n2)).trans h.c1, (cso (fun q => absurd q.symm n2)).trans h.c2, h.yr.block hk.size (hk.block _ h.yr.lt (fun q => n4 q)), h.br.set g v hg, h.cr.block hk.size (hk.block _ h.cr.lt (fun q => n6 q.symm)), h.ne⟩
theorem Dm.setC {w : World} {d kb kt kc : Nat} {b : Nat → UInt8} {tg : Nat → Bool} {cp : Nat → Cp} (h : Dm w d kb kt kc b tg cp) (g : Nat) (c : Cp) (hg : g < 4096) : Dm (set5 w kc (g * 5) c) d kb kt kc b tg (updC cp g c) := by
  obtain ⟨n1, n2, n3, n4, n5, n6⟩ := h.ne
  have hk := set5_kp (fun k => k = kc) w kc (g * 5) c rfl
  have hc := hk.block d h.lt (fun q => n3 q)
  exact ⟨by rw [set5_size]; exact h.lt, (cell_of_block hc 0).trans h.c0, (cell_of_block hc 1).trans h.c1, (cell_of_block hc 2).trans h.c2, h.yr.block hk.size (hk.block _ h.yr.lt (fun q => n5 q)), h.br.block hk.size (hk.block _ h.br.lt (fun q => n6 q)), h.cr.set g c hg, h.ne⟩
def offG (tg : Nat → Bool) (addr e : Nat) : Nat → Bool := fun g => if addr < e ∧ addr / 16 ≤ g ∧ g * 16 < e then false else tg g
theorem offG_zero (tg : Nat → Bool) (addr : Nat) : offG tg addr (addr + 0) = tg := by
  funext g; simp [offG]
theorem offG_step (tg : Nat → Bool) (addr j : Nat) : updG (offG tg addr (addr + j)) ((addr + j) / 16) false = offG tg addr (addr + (j + 1)) := by
  funext g
  unfold updG offG
  by_cases h : g = (addr + j) / 16
  · rw [if_pos h, if_pos (by omega)]
  · rw [if_neg h]
    by_cases q : addr < addr + j ∧ addr / 16 ≤ g ∧ g * 16 < addr + j
    · rw [if_pos q, if_pos (by omega)]
    · rw [if_neg q, if_neg (by omega)]
def insB (addr size : Nat) : Bool := decide (addr < 65536) && decide (addr + size ≤ 65536)
set_option maxHeartbeats 1000000 in
theorem inside_any (addr size : Nat) (w : World) :
    Calls Try.prog 40 #[.int .u64 addr, .int .u64 size] w fun x w' => x = .returned (.bool (insB addr size)) ∧ w' = w := by
  by_cases h1 : addr < 65536
  · have d1 : (addr : Int) < 65536 := by omega
    have m1 : IntKind.u64.wrap (65536 - (addr : Int)) = 65536 - (addr : Int) := by rw [IntKind.wrap_u64]; omega
    by_cases h2 : addr + size ≤ 65536
    · have : insB addr size = true := by simp [insB]; omega
      rw [this]
      have d2 : decide ((size : Int) ≤ 65536 - (addr : Int)) = true := by simp; omega
      clear h1 h2
      go_enter Try.func40, Try.ntmps40
      go_wp2_with fail
      go_ret
      exact ⟨rfl, rfl⟩
    · have : insB addr size = false := by simp [insB]; omega
      rw [this]
      have d2 : decide ((size : Int) ≤ 65536 - (addr : Int)) = false := by simp; omega
      clear h1 h2
      go_enter Try.func40, Try.ntmps40
      go_wp2_with fail
      go_ret
      exact ⟨rfl, rfl⟩
  · have d1 : decide ((addr : Int) < 65536) = false := by simp; omega
    have : insB addr size = false := by simp [insB, h1]
    rw [this]
    clear h1
    obtain ⟨Y, hY⟩ : ∃ Y, IntKind.u64.wrap (65536 - (addr : Int)) = Y := ⟨_, rfl⟩
    go_enter Try.func40, Try.ntmps40
    go_wp2_with fail
    go_ret
    exact ⟨rfl, rfl⟩
set_option maxHeartbeats 1000000 in
theorem may_any (addr size : Nat) (w : World) :
    Calls Try.prog 39 #[.int .u64 addr, .int .u64 size] w fun x w' => x = .returned (.bool (wordB addr size)) ∧ w' = w := by
  have hI := inside_any addr size
  rcases (by omega : size = 1 ∨ size = 8 ∨ (size ≠ 1 ∧ size ≠ 8)) with h1 | h1 | h1
  · subst h1
    have e : wordB addr 1 = insB addr 1 := by
      by_cases q : addr + 1 ≤ 65536
      · have : addr < 65536 := by omega
        simp [wordB, insB, this]
      · simp [wordB, insB, q]
    rw [e]
    generalize insB addr 1 = q at *
    cases q
    all_goals
      go_enter Try.func39, Try.ntmps39
      go_wp2_with (refine (hI _).mono ?_; rintro x w1 ⟨rfl, rfl⟩)
      go_ret
      exact ⟨rfl, rfl⟩
  · subst h1
    have e : wordB addr 8 = insB addr 8 := by
      by_cases q : addr + 8 ≤ 65536
      · have : addr < 65536 := by omega
        simp [wordB, insB, this]
      · simp [wordB, insB, q]
    rw [e]
    generalize insB addr 8 = q at *
    cases q
    all_goals
      go_enter Try.func39, Try.ntmps39
      go_wp2_with (refine (hI _).mono ?_; rintro x w1 ⟨rfl, rfl⟩)
      go_ret
      exact ⟨rfl, rfl⟩
  · have e : wordB addr size = false := by simp [wordB, h1.1, h1.2]
    rw [e]
    have d1 : ((size : Int) == 1) = false := by simpa using (by omega : ¬ (size : Int) = 1)
    have d8 : ((size : Int) == 8) = false := by simpa using (by omega : ¬ (size : Int) = 8)
    clear h1
    generalize insB addr size = q at *
    cases q
    all_goals
      go_enter Try.func39, Try.ntmps39
      go_wp2_with (refine (hI _).mono ?_; rintro x w1 ⟨rfl, rfl⟩)
      go_ret
      exact ⟨rfl, rfl⟩
theorem leB_split (b : Nat → UInt8) (addr j n m : Nat) (h : n * 2 ^ (8 * (j + 1)) + leB b addr (j + 1) = m) : (256 * n + (b (addr + j)).toNat) * 2 ^ (8 * j) + leB b addr j = m := by
  have e : 2 ^ (8 * (j + 1)) = 256 * 2 ^ (8 * j) := by rw [show 8 * (j + 1) = 8 + 8 * j by omega, Nat.pow_add]
  rw [leB, e] at h
  rw [← h, Nat.add_mul, ← Nat.mul_assoc, Nat.mul_comm n 256]
  omega
set_option maxHeartbeats 1000000 in
theorem dLoad_any (S : Nat → Prop) (d addr size : Nat) (b : Nat → UInt8) (tg : Nat → Bool) (cp : Nat → Cp) (w : World) (h : DIn S w d b tg cp) :
    Calls Try.prog 19 #[.pointer (some ⟨d, 0, none⟩), .int .u64 addr, .int .u64 size] w fun x w' => x = .returned (.tuple #[.int .u64 (ldV b addr size), .int .i64 (ldE addr size)]) ∧ Below w.heap.size w w' := by
  have hM := may_any addr size
  cases e : wordB addr size with
  | false =>
    simp only [e] at hM
    simp only [ldV, ldE, e, Bool.false_eq_true, if_false]
    replace h := Hid.mk h
    go_enter Try.func19, Try.ntmps19
    go_wp2_with (refine (hM _).mono ?_; rintro x w1 ⟨rfl, rfl⟩)
    go_ret2
    exact ⟨rfl, Below.refl _ _⟩
  | true =>
    simp only [e] at hM
    have hi := wordB_in e
    have hs0 : 0 < size := by simp [wordB] at e; omega
    simp only [ldV, ldE, e, if_true]
    have hlt := leB_lt b addr size
    have hp : 2 ^ (8 * size) ≤ 2 ^ 64 := Nat.pow_le_pow_right (by omega) (by omega)
    generalize hm : leB b addr size = m at *
    replace h := Hid.mk h
    replace hm := Hid.mk hm
    have m1 : IntKind.i64.wrap (size : Int) = size := by rw [IntKind.wrap_i64]; omega
    have m2 : IntKind.i64.wrap ((size : Int) - 1) = (size : Int) - 1 := by rw [IntKind.wrap_i64]; omega
    have m3 : IntKind.i64.wrap (addr : Int) = addr := by rw [IntKind.wrap_i64]; omega
    go_enter Try.func19, Try.ntmps19
    go_wp2_with (refine (hM _).mono ?_; rintro x w1 ⟨rfl, rfl⟩)
    go_loopw [9, 10] (fun v i wr => ∃ j n : Nat, v = .int .u64 n ∧ i = .int .i64 ((j : Int) - 1) ∧ j ≤ size ∧ n * 2 ^ (8 * j) + leB b addr j = m ∧ wr = w1) (fun _ i _ => (intOf i + 1).toNat)
    case atStart => exact ⟨size, 0, rfl, rfl, by omega, by rw [hm.out]; omega, rfl⟩
    case round =>
      obtain ⟨j, n, rfl, rfl, hj, hn, rfl⟩ := hrel
      cases j with
      | zero =>
        have hn' : n = m := by simpa [leB] using hn
        subst hn'
        have e0 : ((0 : Nat) : Int) - 1 = -1 := by decide
        rw [e0]
        clear hn
        go_wp2_with fail
        go_ret2
        exact ⟨rfl, Below.refl _ _⟩
      | succ j =>
        have e0 : ((j + 1 : Nat) : Int) - 1 = j := by omega
        rw [e0]
        have hs := leB_split b addr j n m hn
        obtain ⟨kb, kt, kc, hd, _⟩ := h.out.go
        have c0 := hd.c0
        have y0 := (hd.yr.at_ (addr + j) (by omega)).1
        have hb := (b (addr + j)).toNat_lt
        unfold bv at y0
        generalize (b (addr + j)).toNat = q at *
        have hbig : 256 * n + q < 18446744073709551616 := by
          have h1 : (256 * n + q) * 1 ≤ (256 * n + q) * 2 ^ (8 * j) := Nat.mul_le_mul_left _ (Nat.pos_of_ne_zero (by simp))
          omega
        have m4 : IntKind.u64.wrap (256 * (n : Int)) = 256 * n := by rw [IntKind.wrap_u64]; omega
        have m5 : IntKind.i64.wrap ((addr : Int) + j) = (addr : Int) + j := by rw [IntKind.wrap_i64]; omega
        have m6 : IntKind.u64.wrap (q : Int) = q := by rw [IntKind.wrap_u64]; omega
        have m7 : IntKind.u64.wrap (256 * (n : Int) + q) = 256 * n + q := by rw [IntKind.wrap_u64]; omega
        have m8 : IntKind.i64.wrap ((j : Int) - 1) = (j : Int) - 1 := by rw [IntKind.wrap_i64]; omega
        have g1 : (0 : Int) ≤ (addr : Int) + j := by omega
        have g2 : (addr : Int) + j < 65536 := by omega
        replace hd := Hid.mk hd
        replace hs := Hid.mk hs
        replace hn := Hid.mk hn
        go_wp2_with fail
        exact ⟨⟨j, 256 * n + q, by go_num, rfl, by omega, hs.out, trivial⟩, by simp [intOf]⟩
theorem YRow.new (w : World) (t : TypeId) (cs : Array Value) (h : ∀ x, x < 65536 → cs[x]? = some (.int .u8 0)) : YRow (w.alloc (.cells cs t)) w.heap.size (fun _ => 0) := by
  have hA := At.new w cs t
  exact ⟨hA.1, fun g hg => ⟨(hA.2.1 g).trans (h g hg), hA.2.2 g⟩⟩
def stG (tg : Nat → Bool) (addr size : Nat) : Nat → Bool := if wordB addr size then offG tg addr (addr + size) else tg
set_option maxHeartbeats 1000000 in
theorem dStore_any (S : Nat → Prop) (d addr size n : Nat) (b : Nat → UInt8) (tg : Nat → Bool) (cp : Nat → Cp) (w : World) (h : DIn S w d b tg cp) (hn : n < 18446744073709551616) :
    Calls Try.prog 17 #[.pointer (some ⟨d, 0, none⟩), .int .u64 addr, .int .u64 size, .int .u64 n] w fun x w' => x = .returned (.int .i64 (ldE addr size)) ∧ DIn S w' d (stB b addr size n) (stG tg addr size) cp ∧ Kp S w w' := by
  have hM := may_any addr size
  cases e : wordB addr size with
  | false =>
    simp only [e] at hM
    simp only [stB, stG, ldE, e, Bool.false_eq_true, if_false]
    replace h := Hid.mk h
    go_enter Try.func17, Try.ntmps17
    go_wp2_with (refine (hM _).mono ?_; rintro x w1 ⟨rfl, rfl⟩)
    go_ret
    exact ⟨rfl, h.out, Kp.refl _ _⟩
  | true =>
    simp only [e] at hM
    have hi := wordB_in e
    simp only [stB, stG, ldE, e, if_true]
    obtain ⟨kb, kt, kc, hd, hSi⟩ := h.go
    have m1 : IntKind.i64.wrap (size : Int) = size := by rw [IntKind.wrap_i64]; omega
    have m3 : IntKind.i64.wrap (addr : Int) = addr := by rw [IntKind.wrap_i64]; omega
    have hne := hd.ne
    replace h := Hid.mk h
    replace hd := Hid.mk hd
    replace hSi := Hid.mk hSi
    replace hne := Hid.mk hne
    go_enter Try.func17, Try.ntmps17
    go_wp2_with (refine (hM _).mono ?_; rintro x w1 ⟨rfl, rfl⟩)
    go_loopw [3, 10] (fun v i wr => ∃ j : Nat, v = .int .u64 ((n / 2 ^ (8 * j) : Nat) : Int) ∧ i = .int .i64 j ∧ j ≤ size ∧ Dm wr d kb kt kc (putB b addr n j) (offG tg addr (addr + j)) cp ∧ Kp S w1 wr) (fun _ i _ => size - (intOf i).toNat)
    case atStart => exact ⟨0, by simp, rfl, by omega, by rw [offG_zero]; exact hd.out, Kp.refl _ _⟩
    case round =>
      obtain ⟨j, rfl, rfl, hj, hD, hK⟩ := hrel
      by_cases hlt : j < size
      · have jl : (j : Int) < size := by omega
        have hf := (hD.setY (addr + j) (UInt8.ofNat (n / 2 ^ (8 * j) % 256)) (by omega)).setG ((addr + j) / 16) false (by omega)
        rw [offG_step] at hf
        have hp : upd (putB b addr n j) (addr + j) (UInt8.ofNat (n / 2 ^ (8 * j) % 256)) = putB b addr n (j + 1) := rfl
        rw [hp] at hf
        have e1 : bv (UInt8.ofNat (n / 2 ^ (8 * j) % 256)) = .int .u8 (((n / 2 ^ (8 * j) : Nat) : Int) % 256) := by
          have : n / 2 ^ (8 * j) % 256 % 256 = n / 2 ^ (8 * j) % 256 := by omega
          simp [bv, UInt8.toNat_ofNat', this]
        rw [e1] at hf
        have e2 : n / 2 ^ (8 * (j + 1)) = n / 2 ^ (8 * j) / 256 := by
          rw [Nat.div_div_eq_div_mul, show 8 * (j + 1) = 8 * j + 8 by omega, Nat.pow_add]
        have hK2 : Kp S w1 ((wr.setCell ⟨kb, addr + j, none⟩ (.int .u8 (((n / 2 ^ (8 * j) : Nat) : Int) % 256))).setCell ⟨kt, (addr + j) / 16, none⟩ (.bool false)) :=
          (hK.trans (Kp.set (S := S) _ ⟨kb, _, none⟩ _ ((hSi.out kb).2 (.inr (.inl rfl)))) (fun _ q => .inl q)).trans (Kp.set (S := S) _ ⟨kt, _, none⟩ _ ((hSi.out kt).2 (.inr (.inr (.inl rfl))))) (fun _ q => .inl q)
        have c0 := hD.c0
        have c1 := hD.c1
        obtain ⟨y0, yf⟩ := hD.yr.at_ (addr + j) (by omega)
        obtain ⟨b0, bf⟩ := hD.br.at_ ((addr + j) / 16) (by omega)
        unfold bv at y0
        obtain ⟨n1, n2, n3, n4, n5, n6⟩ := hne.out
        have n1' : ¬ kb = d := fun q => n1 q.symm
        have n4' : ¬ kb = kt := n4
        have m5 : IntKind.i64.wrap ((addr : Int) + j) = (addr : Int) + j := by rw [IntKind.wrap_i64]; omega
        have g1 : (0 : Int) ≤ (addr : Int) + j := by omega
        have g2 : (addr : Int) + j < 65536 := by omega
        have hbd : n / 2 ^ (8 * j) < 18446744073709551616 := Nat.lt_of_le_of_lt (Nat.div_le_self _ _) hn
        generalize hq : n / 2 ^ (8 * j) = q at *
        replace hf := Hid.mk hf
        replace hK2 := Hid.mk hK2
        replace hD := Hid.mk hD
        replace hK := Hid.mk hK
        replace e2 := Hid.mk e2
        clear e1 hp n1 n2 n3 n4 n5 n6 hq
        go_wp2_with fail
        exact ⟨⟨j + 1, by rw [e2.out]; go_num, by go_num, by omega, hf.out, hK2.out⟩, by simp [intOf]; omega⟩
      · have jl : ¬ (j : Int) < size := by omega
        have : j = size := by omega
        subst this
        replace hD := Hid.mk hD
        replace hK := Hid.mk hK
        go_wp2_with fail
        go_ret
        exact ⟨rfl, ⟨kb, kt, kc, hD.out, hSi.out⟩, hK.out⟩
end T
end Go.Proofs.Ythblllanofnmmaa
