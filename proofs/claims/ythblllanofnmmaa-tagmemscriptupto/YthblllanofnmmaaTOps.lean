import Derived.Test.YthblllanofnmmaaP24
import Derived.SizedLaws
/-
  Stage 6, tagmem: scripts that came in, opened.
-/
namespace Go.Proofs.Ythblllanofnmmaa
namespace T
open Go.ChangeShapes Go.WideShapes Go.ChangeAt Go.RowKit Go.Deep

/-- A step of a script. -/
structure Po where
  m : Int
  k : Int
  a : Nat
  z : Nat
  n : Nat
  v : Vl
structure Vl.Ok (v : Vl) : Prop where
  rn : v.n < 18446744073709551616
  rc : v.c.Ok
structure Po.Ok (x : Po) : Prop where
  rm : I64 x.m
  rk : I64 x.k
  ra : x.a < 18446744073709551616
  rz : x.z < 18446744073709551616
  rn : x.n < 18446744073709551616
  rv : x.v.Ok
def Po.vals (x : Po) : List Value := [.int .i64 x.m, .int .i64 x.k, .int .u64 x.a, .int .u64 x.z, .int .u64 x.n, .bool x.v.g, .int .u64 x.v.n, .int .u64 x.v.c.b, .int .u64 x.v.c.e, .int .u64 x.v.c.c, .int .u8 x.v.c.p, .int .i64 x.v.c.s]
def Vl.vals (v : Vl) : List Value := [.bool v.g, .int .u64 v.n, .int .u64 v.c.b, .int .u64 v.c.e, .int .u64 v.c.c, .int .u8 v.c.p, .int .i64 v.c.s]
set_option maxRecDepth 100000 in
theorem trod_val {H : Type} {enc : TypeId × Value → H} {W : World} {b0 n : Nat} {spare : Nat → Bool} {held : Bool} {cs : List Value} {x : DataW H × List MemPlace}
    (hf : DataW.trod enc Try.prog W b0 spare held n 47 cs = some x) : ∃ k : Vl, cs = k.vals ∧ k.Ok := by
  obtain ⟨xs, m, _, hxx, hcl, hl, hx⟩ := DataW.trod_struct Try.underlying47 hf
  obtain ⟨c0, c1, c2, c3, c4, c5, c6, rfl⟩ := list7 (hcl.trans (by kernel_rfl))
  have at_ : ∀ i, i < 3 → ∃ y, xs[i]? = some y := by
    intro i hi
    have : i < xs.length := by rw [hl]; simpa using hi
    exact ⟨xs[i], by simp [this]⟩
  obtain ⟨y0, t0⟩ := at_ 0 (by omega)
  rw [← hx 0 _ rfl] at t0
  obtain ⟨y1, t1⟩ := at_ 1 (by omega)
  rw [← hx 1 _ rfl] at t1
  obtain ⟨y2, t2⟩ := at_ 2 (by omega)
  rw [← hx 2 _ rfl] at t2
  have k0 : Try.prog.cellsOf 4 = 1 := by kernel_rfl
  have k1 : Try.prog.cellsOf 42 = 1 := by kernel_rfl
  have k2 : Try.prog.cellsOf 45 = 5 := by kernel_rfl
  obtain ⟨g, f0, _⟩ := DataW.trod_bool Try.underlying4 t0
  obtain ⟨nn, f1, _, v1⟩ := DataW.trod_int Try.underlying42 t1
  obtain ⟨c, f2, v2⟩ := trod_cap t2
  simp [k0, k1] at f0 f1
  simp [k2, Cp.vals] at f2
  obtain ⟨rfl, rfl, rfl, rfl, rfl⟩ := f2
  subst f0 f1
  have hn := bd_u64 v1
  unfold U64 at hn
  refine ⟨⟨g, nn.toNat, c⟩, ?_, by show nn.toNat < _; omega, v2⟩
  have : ((nn.toNat : Nat) : Int) = nn := by omega
  simp [Vl.vals, this]
set_option maxRecDepth 100000 in
theorem trod_op {H : Type} {enc : TypeId × Value → H} {W : World} {b0 n : Nat} {spare : Nat → Bool} {held : Bool} {cs : List Value} {x : DataW H × List MemPlace}
    (hf : DataW.trod enc Try.prog W b0 spare held n 49 cs = some x) : ∃ k : Po, cs = k.vals ∧ k.Ok := by
  obtain ⟨xs, m, _, hxx, hcl, hl, hx⟩ := DataW.trod_struct Try.underlying49 hf
  obtain ⟨c0, c1, c2, c3, c4, c5, c6, c7, c8, c9, c10, c11, rfl⟩ := list12 (hcl.trans (by kernel_rfl))
  have at_ : ∀ i, i < 6 → ∃ y, xs[i]? = some y := by
    intro i hi
    have : i < xs.length := by rw [hl]; simpa using hi
    exact ⟨xs[i], by simp [this]⟩
  obtain ⟨y0, t0⟩ := at_ 0 (by omega)
  rw [← hx 0 _ rfl] at t0
  obtain ⟨y1, t1⟩ := at_ 1 (by omega)
  rw [← hx 1 _ rfl] at t1
  obtain ⟨y2, t2⟩ := at_ 2 (by omega)
  rw [← hx 2 _ rfl] at t2
  obtain ⟨y3, t3⟩ := at_ 3 (by omega)
  rw [← hx 3 _ rfl] at t3
  obtain ⟨y4, t4⟩ := at_ 4 (by omega)
  rw [← hx 4 _ rfl] at t4
  obtain ⟨y5, t5⟩ := at_ 5 (by omega)
  rw [← hx 5 _ rfl] at t5
  have k0 : Try.prog.cellsOf 3 = 1 := by kernel_rfl
  have k1 : Try.prog.cellsOf 42 = 1 := by kernel_rfl
  have k2 : Try.prog.cellsOf 47 = 7 := by kernel_rfl
  obtain ⟨mm, f0, _, v0⟩ := DataW.trod_int Try.underlying3 t0
  obtain ⟨kk, f1, _, v1⟩ := DataW.trod_int Try.underlying3 t1
  obtain ⟨aa, f2, _, v2⟩ := DataW.trod_int Try.underlying42 t2
  obtain ⟨zz, f3, _, v3⟩ := DataW.trod_int Try.underlying42 t3
  obtain ⟨nn, f4, _, v4⟩ := DataW.trod_int Try.underlying42 t4
  obtain ⟨v, f5, v5⟩ := trod_val t5
  simp [k0, k1] at f0 f1 f2 f3 f4
  simp [k2, Vl.vals] at f5
  obtain ⟨rfl, rfl, rfl, rfl, rfl, rfl, rfl⟩ := f5
  subst f0 f1 f2 f3 f4
  have h2 := bd_u64 v2
  have h3 := bd_u64 v3
  have h4 := bd_u64 v4
  unfold U64 at h2 h3 h4
  refine ⟨⟨mm, kk, aa.toNat, zz.toNat, nn.toNat, v⟩, ?_, bd_i64 v0, bd_i64 v1, by show aa.toNat < _; omega, by show zz.toNat < _; omega, by show nn.toNat < _; omega, v5⟩
  have e2 : ((aa.toNat : Nat) : Int) = aa := by omega
  have e3 : ((zz.toNat : Nat) : Int) = zz := by omega
  have e4 : ((nn.toNat : Nat) : Int) = nn := by omega
  simp [Po.vals, e2, e3, e4]
theorem open_ops {H : Type} {enc : TypeId × Value → H} {W : World} {spare : Nat → Bool} {held : Bool} {a : Option Addr} {len cap : Nat} {d : DataW H} {ps : List MemPlace}
    (h : DataW.Trod enc Try.prog W 0 spare held 23 (.slice a len cap) d ps) : ∃ L : List Po, len = L.length ∧ ((∀ x ∈ L, x.Ok) ∧ EIn 12 Po.vals W a L) ∧ L.length ≤ maxLen :=
  open_list (k := 12) Try.underlying23 (by kernel_rfl) (by omega) (fun _ => rfl) (fun _ _ _ q => trod_op q) h
set_option maxRecDepth 100000 in
theorem open_text {H : Type} {enc : TypeId × Value → H} {W : World} {r : Reach} {base b0 : Nat} {sp : Nat → Bool} {held : Bool} {t : TypeId} {v : Value} {d : DataW H} {ps : List MemPlace}
    (ht : Try.prog.underlying t = some .string) (hval : Value.okWide Try.prog W r b0 t v) (hd : DataW.Trod enc Try.prog W base sp held t v d ps) :
    ∃ s : List UInt8, v = .string (str s) ∧ d = .lit (.string s) := by
  obtain ⟨s, rfl⟩ := okWide_string ht hval
  obtain ⟨fuel, hf⟩ := hd
  obtain ⟨s', h', hx, h⟩ := DataW.trod_string ht hf
  simp [Value.cells] at h'
  subst h'
  simp only [Prod.mk.injEq] at hx
  obtain ⟨rfl, rfl⟩ := hx
  exact ⟨s.data.toList, rfl, rfl⟩
end T
end Go.Proofs.Ythblllanofnmmaa
