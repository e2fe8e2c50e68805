/-
  Stage 3, instr: raw numbers that came in, opened.
-/
import Derived.Test.YtehjikjpgdnjdabDoorIOpenL
import Derived.Test.YtehjikjpgdnjdabDoorIMade
namespace Go.Proofs.YtehjikjpgdnjdabDoor
open Go.ChangeShapes Go.WideShapes Go.ChangeAt Go.RowKit Go.Deep

theorem cellsRaw : Tryd.prog.cellsOf 46 = 5 := by kernel_rfl
def Ins.rvals (k : Ins) : List Value := [.int .i64 k.op, .int .i64 k.a, .int .i64 k.b, .int .i64 k.c, .int .i64 k.m]
theorem trod_raw {H : Type} {enc : TypeId × Value → H} {W : World} {b0 n : Nat} {spare : Nat → Bool} {held : Bool} {cs : List Value} {x : DataW H × List MemPlace}
    (hf : DataW.trod enc Tryd.prog W b0 spare held n 46 cs = some x) : ∃ k : Ins, cs = k.rvals ∧ InRaw k ∧ 6 ≤ Rows.uptoBulk x.1 := by
  have hs := Tryd.underlying46
  obtain ⟨xs, m, _, hxx, hcl, hl, hx⟩ := DataW.trod_struct hs hf
  obtain ⟨c0, c1, c2, c3, c4, rfl⟩ := five_list (hcl.trans cellsRaw)
  have hbk : 6 ≤ Rows.uptoBulk x.1 := by
    rw [hxx]
    have := bulk_len (xs.map (·.1))
    rw [List.length_map, hl] at this
    have h5 : 5 ≤ Rows.uptoBulkAll (xs.map (·.1)) := this
    simp only [Rows.uptoBulk]
    omega
  have at_ : ∀ i, i < 5 → ∃ y, xs[i]? = some y := by
    intro i hi
    have : i < xs.length := by rw [hl]; simpa using hi
    exact ⟨xs[i], by simp [this]⟩
  have k2 : Tryd.prog.cellsOf 3 = 1 := by kernel_rfl
  obtain ⟨y0, t0⟩ := at_ 0 (by omega)
  rw [← hx 0 _ rfl] at t0
  obtain ⟨y1, t1⟩ := at_ 1 (by omega)
  rw [← hx 1 _ rfl] at t1
  obtain ⟨y2, t2⟩ := at_ 2 (by omega)
  rw [← hx 2 _ rfl] at t2
  obtain ⟨y3, t3⟩ := at_ 3 (by omega)
  rw [← hx 3 _ rfl] at t3
  obtain ⟨y4, t4⟩ := at_ 4 (by omega)
  rw [← hx 4 _ rfl] at t4
  obtain ⟨o, e0, _, w0⟩ := DataW.trod_int Tryd.underlying3 t0
  obtain ⟨a, e1, _, w1⟩ := DataW.trod_int Tryd.underlying3 t1
  obtain ⟨b, e2, _, w2⟩ := DataW.trod_int Tryd.underlying3 t2
  obtain ⟨c, e3, _, w3⟩ := DataW.trod_int Tryd.underlying3 t3
  obtain ⟨m, e4, _, w4⟩ := DataW.trod_int Tryd.underlying3 t4
  simp [k2] at e0 e1 e2 e3 e4
  subst e0 e1 e2 e3 e4
  exact ⟨⟨o, a, b, c, m⟩, rfl, ⟨bd_i64 w0, bd_i64 w1, bd_i64 w2, bd_i64 w3, bd_i64 w4⟩, hbk⟩
theorem five_rcells {W : World} {a : Addr} {i : Nat} {k : Ins} (hs : a.spot = none) (h : W.cells? 0 (a.add (i * 5)) 5 = some k.rvals) :
    ∃ b off, a = ⟨b, off, none⟩ ∧ b < W.heap.size ∧ FiveR W b (off + i * 5) k := by
  obtain ⟨_, _, hc⟩ := World.cells?_some h
  have c0 := hc 0 (by omega)
  have c1 := hc 1 (by omega)
  have c2 := hc 2 (by omega)
  have c3 := hc 3 (by omega)
  have c4 := hc 4 (by omega)
  obtain ⟨b, off, spot⟩ := a
  obtain rfl : spot = none := hs
  rw [addr_add, addr_add] at c0 c1 c2 c3 c4
  have hlt := World.block_lt_of_cell? W _ (c0.trans rfl)
  exact ⟨b, off, rfl, hlt, c0, c1, c2, c3, c4⟩
theorem open_raws {H : Type} {enc : TypeId × Value → H} {W : World} {spare : Nat → Bool} {held : Bool} {a : Option Addr} {len cap : Nat} {d : DataW H} {ps : List MemPlace}
    (h : DataW.Trod enc Tryd.prog W 0 spare held 22 (.slice a len cap) d ps) : ∃ R : List Ins, R.length = len ∧ RIn W.heap.size W a R ∧ Long d len := by
  obtain ⟨fuel, hf⟩ := h
  rcases open_slice Tryd.underlying22 hf with ⟨hcs, hx⟩ | ⟨x, l, c, m, n, D, Pl, hcs, _, hl, hm, hmm, hx2, hx⟩
  · simp [Value.cells] at hcs
    obtain ⟨rfl, rfl, rfl⟩ := hcs
    simp only [Prod.mk.injEq] at hx
    exact ⟨[], rfl, fun i hi => by simp at hi, .inl ⟨hx.1, rfl⟩⟩
  · simp [Value.cells] at hcs
    obtain ⟨rfl, rfl, rfl⟩ := hcs
    have hlm : len ≤ m := by rw [hmm]; split <;> omega
    have hk : ∀ i, i < len → ∃ k : Ins, W.cells? 0 (x.add (i * 5)) 5 = some k.rvals ∧ InRaw k ∧ 6 ≤ Rows.uptoBulk (D i) := fun i hi => by
      obtain ⟨cs', e1, e2⟩ := hx i (by omega)
      rw [cellsRaw] at e1
      obtain ⟨k, rfl, r, r2⟩ := trod_raw e2
      exact ⟨k, e1, r, r2⟩
    obtain ⟨L, hL, hp⟩ := choose_list _ _ hk
    simp only [Prod.mk.injEq] at hx2
    refine ⟨L, hL, fun i hi => ?_, .inr ⟨_, _, hx2.1, by simp, fun e he => ?_⟩⟩
    · have h0 : 0 < L.length := by omega
      have hs : x.spot = none := no_spot (hp 0 h0).1
      obtain ⟨b, off, rfl, hb, h5⟩ := five_rcells hs (hp i hi).1
      exact ⟨b, off, rfl, hb, hb, h5, (hp i hi).2.1⟩
    · obtain ⟨i, hi, rfl⟩ := List.mem_map.1 he
      obtain ⟨k, _, _, r⟩ := hk i (by simpa using hi)
      exact r
theorem open_raw {H : Type} {enc : TypeId × Value → H} {W : World} {r : Reach} {base b0 : Nat} {spare : Nat → Bool} {held : Bool} {v : Value} {d : DataW H} {ps : List MemPlace}
    (hv : Value.okWide Tryd.prog W r base 46 v) (h : DataW.Trod enc Tryd.prog W b0 spare held 46 v d ps) :
    ∃ op a b c m : Int, v = .agg #[.int .i64 op, .int .i64 a, .int .i64 b, .int .i64 c, .int .i64 m] ∧ InRaw ⟨op, a, b, c, m⟩ := by
  obtain ⟨cs, rfl, hsz⟩ := okWide_struct Tryd.underlying46 hv
  obtain ⟨fuel, hf⟩ := h
  obtain ⟨k, hk, hi, _⟩ := trod_raw hf
  obtain ⟨o, a, b, c, m⟩ := k
  have : cs = #[.int .i64 o, .int .i64 a, .int .i64 b, .int .i64 c, .int .i64 m] := by
    apply Array.toList_inj.1
    simpa [Value.cells, Ins.rvals] using hk
  exact ⟨o, a, b, c, m, by rw [this], hi⟩
/-- By the reach: no row is longer than memory. -/
theorem sized_long {H : Type} {d : DataW H} {n B : Nat} (hB : B = 40) (h : Long d n) (hz : ∀ e s, d = .slice e s → (e.length + s.length) * B ≤ reachBytes) : n ≤ maxI := by
  rcases h with ⟨_, rfl⟩ | ⟨e, s, he, rfl, _⟩
  · unfold maxI; omega
  · have := hz e s he
    have hr : reachBytes = 140737488351232 := by decide
    rw [hB, hr] at this
    unfold maxI
    omega
end Go.Proofs.YtehjikjpgdnjdabDoor
