/-
  Stage 6, tagmem: rows of truth values and of capabilities, as make lays them.
-/
import Derived.Test.YtbmkefpgfifigaaTTagM
import Derived.Laws.MakeOwn
namespace Go.Proofs.Ytbmkefpgfifigaa
namespace T
open Go.RowKit

def rowBool : Array Value := madeCells (Value.cells (.bool false)) 4096
def rowCap : Array Value := madeCells (Value.cells Cp.zero.agg) 20480
theorem infoBool : (Try.prog.info? 4).map (fun i => (i.zero, i.size, i.bytes)) = some (some (.bool false), 1, 1) := by kernel_rfl
theorem infoCap : (Try.prog.info? 26).map (fun i => (i.zero, i.size, i.bytes)) = some (some Cp.zero.agg, 5, 40) := by kernel_rfl
theorem make_bool (w : World) : (Instr.makeSlice 56 (.int .i64 4096) (.int .i64 4096)).run Try.prog w = .ok (.slice (some ⟨w.heap.size, 0, none⟩) 4096 4096) (w.alloc (.cells rowBool 4)) := by
  obtain ⟨i0, hi, hz0, hz1, hz2⟩ := info_parts' infoBool
  have := run_makeSlice (P := Try.prog) w 56 4 i0 (.bool false) Try.underlying56 hi hz0 .i64 .i64 4096 4096 (by decide) (by decide) (by rw [hz1]; decide) (by rw [hz2]; decide) (by decide)
  rw [hz1] at this
  exact this
theorem make_cap (w : World) : (Instr.makeSlice 57 (.int .i64 4096) (.int .i64 4096)).run Try.prog w = .ok (.slice (some ⟨w.heap.size, 0, none⟩) 4096 4096) (w.alloc (.cells rowCap 26)) := by
  obtain ⟨i0, hi, hz0, hz1, hz2⟩ := info_parts' infoCap
  have := run_makeSlice (P := Try.prog) w 57 26 i0 Cp.zero.agg Try.underlying57 hi hz0 .i64 .i64 4096 4096 (by decide) (by decide) (by rw [hz1]; decide) (by rw [hz2]; decide) (by decide)
  rw [hz1] at this
  exact this
theorem rowBool_at (g : Nat) (h : g < 4096) : rowBool[g]? = some (.bool false) := by
  simp [rowBool, madeCells, h, Value.cells, Nat.mod_one]
theorem rowCap_at (g r : Nat) (h : g < 4096) (hr : r < 5) : rowCap[g * 5 + r]? = some ((Value.cells Cp.zero.agg)[r]!) := by
  have e : (g * 5 + r) % 5 = r := by omega
  have e2 : (Value.cells Cp.zero.agg).size = 5 := rfl
  unfold rowCap madeCells
  rw [Array.getElem?_map, Array.getElem?_range, if_pos (by omega), Option.map_some, e2, e]
/-- A row of 4096 truth values. -/
structure BRow (w : World) (k : Nat) (tg : Nat → Bool) : Prop where
  lt : k < w.heap.size
  at_ : ∀ g, g < 4096 → w.cell? ⟨k, g, none⟩ = some (.bool (tg g)) ∧ w.frozen? ⟨k, g, none⟩ = false
/-- A row of 4096 capabilities. -/
def Fiv (w : World) (k o : Nat) (c : Cp) : Prop :=
  w.cell? ⟨k, o, none⟩ = some (.int .u64 c.b) ∧ w.cell? ⟨k, o + 1, none⟩ = some (.int .u64 c.e) ∧ w.cell? ⟨k, o + 1 + 1, none⟩ = some (.int .u64 c.c) ∧ w.cell? ⟨k, o + 1 + 1 + 1, none⟩ = some (.int .u8 c.p) ∧ w.cell? ⟨k, o + 1 + 1 + 1 + 1, none⟩ = some (.int .i64 c.s)
structure CRow (w : World) (k : Nat) (cp : Nat → Cp) : Prop where
  lt : k < w.heap.size
  at_ : ∀ g, g < 4096 → Fiv w k (g * 5) (cp g)
  fr : ∀ o, w.frozen? ⟨k, o, none⟩ = false
theorem BRow.block {w w1 : World} {k : Nat} {tg : Nat → Bool} (h : BRow w k tg) (hs : w.heap.size ≤ w1.heap.size) (hb : w1.heap[k]? = w.heap[k]?) : BRow w1 k tg :=
  ⟨Nat.lt_of_lt_of_le h.lt hs, fun g hg => ⟨(cell_of_block hb g).trans (h.at_ g hg).1, (frozen_of_block hb g).trans (h.at_ g hg).2⟩⟩
theorem CRow.block {w w1 : World} {k : Nat} {cp : Nat → Cp} (h : CRow w k cp) (hs : w.heap.size ≤ w1.heap.size) (hb : w1.heap[k]? = w.heap[k]?) : CRow w1 k cp :=
  ⟨Nat.lt_of_lt_of_le h.lt hs, fun g hg => by
    have := h.at_ g hg
    unfold Fiv at *
    simp only [cell_of_block hb]
    exact this, fun o => (frozen_of_block hb o).trans (h.fr o)⟩
theorem BRow.new (w : World) (t : TypeId) : BRow (w.alloc (.cells rowBool t)) w.heap.size (fun _ => false) := by
  have h := At.new w rowBool t
  exact ⟨h.1, fun g hg => ⟨(h.2.1 g).trans (rowBool_at g hg), h.2.2 g⟩⟩
theorem CRow.new (w : World) (t : TypeId) : CRow (w.alloc (.cells rowCap t)) w.heap.size (fun _ => Cp.zero) := by
  have h := At.new w rowCap t
  refine ⟨h.1, fun g hg => ⟨?_, ?_, ?_, ?_, ?_⟩, fun o => h.2.2 o⟩
  · exact (h.2.1 _).trans (rowCap_at g 0 hg (by omega))
  · exact (h.2.1 _).trans (rowCap_at g 1 hg (by omega))
  · exact (h.2.1 _).trans (rowCap_at g 2 hg (by omega))
  · exact (h.2.1 _).trans (rowCap_at g 3 hg (by omega))
  · exact (h.2.1 _).trans (rowCap_at g 4 hg (by omega))
def updG (tg : Nat → Bool) (g : Nat) (v : Bool) : Nat → Bool := fun x => if x = g then v else tg x
def updC (cp : Nat → Cp) (g : Nat) (v : Cp) : Nat → Cp := fun x => if x = g then v else cp x
theorem BRow.set {w : World} {k : Nat} {tg : Nat → Bool} (h : BRow w k tg) (g : Nat) (v : Bool) (hg : g < 4096) : BRow (w.setCell ⟨k, g, none⟩ (.bool v)) k (updG tg g v) := by
  refine ⟨by simpa using h.lt, fun x hx => ⟨?_, by simpa using (h.at_ x hx).2⟩⟩
  by_cases q : x = g
  · subst q
    rw [css (h.at_ x hx).1]; simp [updG]
  · rw [cso (fun _ r => q r.symm), (h.at_ x hx).1]; simp [updG, q]
/-- A capability is written into a row. -/
def set5 (w : World) (k o : Nat) (c : Cp) : World :=
  ((((w.setCell ⟨k, o, none⟩ (.int .u64 c.b)).setCell ⟨k, o + 1, none⟩ (.int .u64 c.e)).setCell ⟨k, o + 1 + 1, none⟩ (.int .u64 c.c)).setCell ⟨k, o + 1 + 1 + 1, none⟩ (.int .u8 c.p)).setCell ⟨k, o + 1 + 1 + 1 + 1, none⟩ (.int .i64 c.s)
theorem set5_size (w : World) (k o : Nat) (c : Cp) : (set5 w k o c).heap.size = w.heap.size := by simp [set5]
theorem set5_other (w : World) (k o k' o' : Nat) (c : Cp) (h : k = k' → o' < o ∨ o + 5 ≤ o') : (set5 w k o c).cell? ⟨k', o', none⟩ = w.cell? ⟨k', o', none⟩ := by
  unfold set5
  rw [cso (fun q => by have := h q; omega), cso (fun q => by have := h q; omega), cso (fun q => by have := h q; omega), cso (fun q => by have := h q; omega), cso (fun q => by have := h q; omega)]
theorem set5_frozen (w : World) (k o k' o' : Nat) (c : Cp) : (set5 w k o c).frozen? ⟨k', o', none⟩ = w.frozen? ⟨k', o', none⟩ := by simp [set5]
theorem set5_fiv {w : World} {k o : Nat} {d : Cp} (h : Fiv w k o d) (c : Cp) : Fiv (set5 w k o c) k o c := by
  obtain ⟨c0, c1, c2, c3, c4⟩ := h
  unfold set5
  refine ⟨?_, ?_, ?_, ?_, ?_⟩
  · rw [cso (fun _ => by omega), cso (fun _ => by omega), cso (fun _ => by omega), cso (fun _ => by omega), css c0]
  · rw [cso (fun _ => by omega), cso (fun _ => by omega), cso (fun _ => by omega), css ((cso (fun _ => by omega)).trans c1)]
  · rw [cso (fun _ => by omega), cso (fun _ => by omega), css ((cso (fun _ => by omega)).trans ((cso (fun _ => by omega)).trans c2))]
  · rw [cso (fun _ => by omega), css ((cso (fun _ => by omega)).trans ((cso (fun _ => by omega)).trans ((cso (fun _ => by omega)).trans c3)))]
  · rw [css ((cso (fun _ => by omega)).trans ((cso (fun _ => by omega)).trans ((cso (fun _ => by omega)).trans ((cso (fun _ => by omega)).trans c4))))]
theorem set5_kp (S : Nat → Prop) (w : World) (k o : Nat) (c : Cp) (h : S k) : Kp S w (set5 w k o c) := by
  unfold set5
  exact ((((Kp.set w ⟨k, _, none⟩ _ h).trans (Kp.set _ ⟨k, _, none⟩ _ h) (fun _ q => .inl q)).trans (Kp.set _ ⟨k, _, none⟩ _ h) (fun _ q => .inl q)).trans (Kp.set _ ⟨k, _, none⟩ _ h) (fun _ q => .inl q)).trans (Kp.set _ ⟨k, _, none⟩ _ h) (fun _ q => .inl q)
theorem CRow.set {w : World} {k : Nat} {cp : Nat → Cp} (h : CRow w k cp) (g : Nat) (c : Cp) (hg : g < 4096) : CRow (set5 w k (g * 5) c) k (updC cp g c) := by
  refine ⟨by rw [set5_size]; exact h.lt, fun x hx => ?_, fun o => by rw [set5_frozen]; exact h.fr o⟩
  by_cases q : x = g
  · subst q
    have := set5_fiv (h.at_ x hx) c
    simpa [updC] using this
  · have e : updC cp g c x = cp x := by simp [updC, q]
    rw [e]
    obtain ⟨c0, c1, c2, c3, c4⟩ := h.at_ x hx
    exact ⟨(set5_other _ _ _ _ _ _ (fun _ => by omega)).trans c0, (set5_other _ _ _ _ _ _ (fun _ => by omega)).trans c1, (set5_other _ _ _ _ _ _ (fun _ => by omega)).trans c2, (set5_other _ _ _ _ _ _ (fun _ => by omega)).trans c3, (set5_other _ _ _ _ _ _ (fun _ => by omega)).trans c4⟩
/-- The two memories and the two rows of the statement. -/
structure Tt (W0 W : World) (a f kt kc : Nat) (b : Nat → UInt8) (t : Nat → Option Cp) (tg : Nat → Bool) (cp : Nat → Cp) : Prop where
  two : ∃ S, Two S W a f b b t ∧ ∀ k, S k → W0.heap.size ≤ k ∧ k ≠ kt ∧ k ≠ kc
  br : BRow W kt tg
  cr : CRow W kc cp
  ne : kt ≠ kc ∧ W0.heap.size ≤ kt ∧ W0.heap.size ≤ kc
  be : Below W0.heap.size W0 W
theorem Tt.gr {W0 W W1 : World} {a f kt kc : Nat} {b : Nat → UInt8} {t : Nat → Option Cp} {tg : Nat → Bool} {cp : Nat → Cp} (h : Tt W0 W a f kt kc b t tg cp) (hb : Below W.heap.size W W1) : Tt W0 W1 a f kt kc b t tg cp := by
  obtain ⟨⟨S, h1, h2⟩, h3, h4, h5, h6⟩ := h
  exact ⟨⟨S, h1.gr hb, h2⟩, h3.block hb.size (hb.block _ h3.lt), h4.block hb.size (hb.block _ h4.lt), h5, h6.trans (hb.mono h6.size)⟩
theorem Tt.step {W0 W : World} {a f kt kc : Nat} {b : Nat → UInt8} {t : Nat → Option Cp} {tg : Nat → Bool} {cp : Nat → Cp} (h : Tt W0 W a f kt kc b t tg cp) (x : Wr) (hx : x.Ok) :
    Calls Try.prog 11 #[.pointer (some ⟨a, 0, none⟩), .pointer (some ⟨f, 0, none⟩), .agg x.cells] W fun r w' => r = .returned (.bool true) ∧ Tt W0 w' a f kt kc (wrB b x) (wrT t x) tg cp := by
  obtain ⟨⟨S, h1, h2⟩, h3, h4, h5, h6⟩ := h
  refine (writes_any S a f b t x W h1 hx).mono ?_
  rintro r w' ⟨rfl, S', g1, g2⟩
  refine ⟨rfl, ⟨S', g1, fun k q => ?_⟩, h3.block g2.kp.size (g2.kp.block _ h3.lt (fun q => (h2 _ q).2.1 rfl)), h4.block g2.kp.size (g2.kp.block _ h4.lt (fun q => (h2 _ q).2.2 rfl)), h5, h6.trans (g2.kp.below h6.size (fun k q => (h2 k q).1))⟩
  rcases g2.new k q with r | r
  · exact h2 k r
  · have := h6.size; have := h3.lt; have := h4.lt; exact ⟨by omega, by omega, by omega⟩
theorem Tt.setG {W0 W : World} {a f kt kc : Nat} {b : Nat → UInt8} {t : Nat → Option Cp} {tg : Nat → Bool} {cp : Nat → Cp} (h : Tt W0 W a f kt kc b t tg cp) (g : Nat) (v : Bool) (hg : g < 4096) :
    Tt W0 (W.setCell ⟨kt, g, none⟩ (.bool v)) a f kt kc b t (updG tg g v) cp := by
  obtain ⟨⟨S, h1, h2⟩, h3, h4, h5, h6⟩ := h
  have hk := Kp.set (S := fun k => k = kt) W ⟨kt, g, none⟩ (.bool v) rfl
  exact ⟨⟨S, h1.keep hk (fun k q r => (h2 k q).2.1 r), h2⟩, h3.set g v hg, h4.block hk.size (hk.block _ h4.lt (fun q => h5.1 q.symm)), h5, h6.trans (hk.below h6.size (fun k q => by omega))⟩
theorem Tt.setC {W0 W : World} {a f kt kc : Nat} {b : Nat → UInt8} {t : Nat → Option Cp} {tg : Nat → Bool} {cp : Nat → Cp} (h : Tt W0 W a f kt kc b t tg cp) (g : Nat) (c : Cp) (hg : g < 4096) :
    Tt W0 (set5 W kc (g * 5) c) a f kt kc b t tg (updC cp g c) := by
  obtain ⟨⟨S, h1, h2⟩, h3, h4, h5, h6⟩ := h
  have hk := set5_kp (fun k => k = kc) W kc (g * 5) c rfl
  exact ⟨⟨S, h1.keep hk (fun k q r => (h2 k q).2.2 r), h2⟩, h3.block hk.size (hk.block _ h3.lt (fun q => h5.1 q)), h4.set g c hg, h5, h6.trans (hk.below h6.size (fun k q => by omega))⟩
theorem Tt.tg {W0 W : World} {a f kt kc : Nat} {b : Nat → UInt8} {t : Nat → Option Cp} {tg : Nat → Bool} {cp : Nat → Cp} (h : Tt W0 W a f kt kc b t tg cp) : ∃ P, TgIn P W a b t := by
  obtain ⟨S, h1, _⟩ := h.two
  obtain ⟨P, q, _⟩ := h1.tg
  exact ⟨P, q⟩
/-- A write's cells, in each world that leaves them. -/
theorem eightAt {w : World} {la : Option Addr} {L : List Wr} (h : EIn 8 Wr.vals w la L) (i : Nat) (hi : i < L.length) : ∃ b off : Nat, la = some ⟨b, off, none⟩ ∧ b < w.heap.size ∧ ∀ W, Below w.heap.size w W → W.cell? ⟨b, off + i * 8, none⟩ = some (.int .i64 L[i].a) ∧ W.cell? ⟨b, off + i * 8 + 1, none⟩ = some (.int .i64 L[i].k) ∧ W.cell? ⟨b, off + i * 8 + 1 + 1, none⟩ = some (.int .u64 L[i].n) ∧ W.cell? ⟨b, off + i * 8 + 1 + 1 + 1, none⟩ = some (.int .u64 L[i].c.b) ∧ W.cell? ⟨b, off + i * 8 + 1 + 1 + 1 + 1, none⟩ = some (.int .u64 L[i].c.e) ∧ W.cell? ⟨b, off + i * 8 + 1 + 1 + 1 + 1 + 1, none⟩ = some (.int .u64 L[i].c.c) ∧ W.cell? ⟨b, off + i * 8 + 1 + 1 + 1 + 1 + 1 + 1, none⟩ = some (.int .u8 L[i].c.p) ∧ W.cell? ⟨b, off + i * 8 + 1 + 1 + 1 + 1 + 1 + 1 + 1, none⟩ = some (.int .i64 L[i].c.s) := by
  obtain ⟨b, off, h1, h2, h3⟩ := h i hi
  have hc : ∀ W, Below w.heap.size w W → ∀ j v, (Wr.vals L[i])[j]? = some v → W.cell? ⟨b, off + i * 8 + j, none⟩ = some v := fun W q j v r => (q.cell (p := ⟨b, _, none⟩) h2).trans (h3 j v r)
  exact ⟨b, off, h1, h2, fun W q => ⟨hc W q 0 _ rfl, hc W q 1 _ rfl, hc W q 2 _ rfl, hc W q 3 _ rfl, hc W q 4 _ rfl, hc W q 5 _ rfl, hc W q 6 _ rfl, hc W q 7 _ rfl⟩⟩
theorem runC_pos (L : List Wr) (h : ∀ x ∈ L, x.Ok) : ∀ g, 0 ≤ (runC L g).c := by
  unfold runC
  suffices H : ∀ (M : List Wr) (c : Nat → Cp), (∀ x ∈ M, x.Ok) → (∀ g, 0 ≤ (c g).c) → ∀ g, 0 ≤ (M.foldl tbC c g).c from H L _ h (fun g => by simp [Cp.zero])
  intro M
  induction M with
  | nil => intro c _ h; exact h
  | cons x M ih =>
    intro c h1 h2
    refine ih _ (fun y hy => h1 y (by simp [hy])) (fun g => ?_)
    unfold tbC
    split
    · exact (h1 x (by simp)).rc.rc.1
    · exact h2 g
theorem granB_mul (k : Nat) (h : k < 4096) : granB (16 * k) = true := by simp [granB]; omega
theorem drewN_size (w : World) (n : Nat) : (w.drewN n).heap.size = w.heap.size := by
  induction n with
  | zero => rfl
  | succ n ih => exact ih
theorem at_grown {w w1 : World} {k : Nat} {cs : Array Value} {row : Option Nat} (h : At w k cs) (hg : w.grownBy w1 row) (hk : row ≠ some k) : At w1 k cs := by
  have hb := hg.block k h.1 (fun e => hk e.symm)
  exact ⟨Nat.lt_of_lt_of_le h.1 hg.size, fun o => (cell_of_block hb o).trans (h.2.1 o), fun o => (frozen_of_block hb o).trans (h.2.2 o)⟩
theorem tbG_eq (tg : Nat → Bool) (x : Wr) : tbG tg x = if x.kind = 1 then updG (updG tg (x.ad / 16) false) ((x.ad + 7) / 16) false else updG tg (x.ad / 16) (decide (x.kind = 2)) := by
  funext g
  unfold tbG
  by_cases h : x.kind = 1
  · simp [h, updG]
  · simp [h, updG]
theorem tbC_eq (cp : Nat → Cp) (x : Wr) : tbC cp x = updC cp (x.ad / 16) x.c := rfl
end T
end Go.Proofs.Ytbmkefpgfifigaa
