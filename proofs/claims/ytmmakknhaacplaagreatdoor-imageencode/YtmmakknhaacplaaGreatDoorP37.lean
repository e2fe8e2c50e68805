import Derived.Test.YtmmakknhaacplaaGreatDoorP07
import Derived.Test.YtmmakknhaacplaaGreatDoorP35
import Derived.Test.YtmmakknhaacplaaGreatDoorP36
import Derived.Laws.Concat
/-
  Stage 3, instr: raw numbers that came in, opened.
-/
namespace Go.Proofs.YtmmakknhaacplaaGreatDoor
open Go.ChangeShapes Go.WideShapes Go.ChangeAt Go.RowKit Go.Deep

def Ins.rvals (k : Ins) : List Value := [.int .i64 k.op, .int .i64 k.a, .int .i64 k.b, .int .i64 k.c, .int .i64 k.m]
theorem five_rcells {W : World} {a : Addr} {i : Nat} {k : Ins} (hs : a.spot = none) (h : W.cells? 0 (a.add (i * 5)) 5 = some k.rvals) :
    ∃ b off, a = ⟨b, off, none⟩ ∧ b < W.heap.size ∧ FiveR W b (off + i * 5) k := by
  obtain ⟨_, _, hc⟩ := World.cells?_some h
  have c0 := hc 0 (by omega)
  have c1 := hc 1 (by omega)
  have c2 := hc 2 (by omega)
  have c3 := hc 3 (by omega)
  have c4 := hc 4 (by omega)
  obtain ⟨b, off, spot⟩ := a
  obtain rfl : spot = none := hs
  rw [addr_add, addr_add] at c0 c1 c2 c3 c4
  have hlt := World.block_lt_of_cell? W _ (c0.trans rfl)
  exact ⟨b, off, rfl, hlt, c0, c1, c2, c3, c4⟩
/-- By the reach: no row is longer than memory. -/
theorem sized_long {H : Type} {d : DataW H} {n B : Nat} (hB : B = 40) (h : Long d n) (hz : ∀ e s, d = .slice e s → (e.length + s.length) * B ≤ reachBytes) : n ≤ maxI := by
  rcases h with ⟨_, rfl⟩ | ⟨e, s, he, rfl, _⟩
  · unfold maxI; omega
  · have := hz e s he
    have hr : reachBytes = 140737488351232 := by decide
    rw [hB, hr] at this
    unfold maxI
    omega
end Go.Proofs.YtmmakknhaacplaaGreatDoor


/-
  Stage 3, instr: the walk of the statement on a byte that is another one.
-/
namespace Go.Proofs.YtmmakknhaacplaaGreatDoor
open Go.RowKit

theorem extract_take (S : List UInt8) (j : Nat) : (str S).extract 0 j = str (S.take j) := by
  rw [str, ByteArray.extract_mk, str]
  congr 2
theorem add_str (A B : List UInt8) (h : A.length + B.length ≤ 9223372036854775807) (W : World) : (Op.stringOp .add (str A) (str B)).run Tryz.prog W = .ok (.string (str (A ++ B))) W := by
  have := run_string_add_sum (P := Tryz.prog) (w := W) (str A) (str B) (by rw [str_size, str_size]; exact h)
  rw [this]
  congr 2
theorem one_string (v : Int) (W : World) (X : Nat) (h : W.cell? ⟨X, 0, none⟩ = some (.int .u8 v)) (h0 : 0 ≤ v) (h1 : v < 256) :
    (convert 58 9 (.slice (some ⟨X, 0, none⟩) 1 1)).run Tryz.prog W = .ok (.string (str [UInt8.ofNat v.toNat])) W := by
  refine run_convert_bytes_back (P := Tryz.prog) W 58 9 5 ⟨X, 0, none⟩ 1 [UInt8.ofNat v.toNat] Tryz.underlying58 Tryz.underlying5 Tryz.underlying9 fun j hj => ?_
  obtain rfl : j = 0 := by simpa using hj
  have e : (⟨X, 0, none⟩ : Addr).add 0 = ⟨X, 0, none⟩ := by simp [Addr.add]
  rw [e, h]
  simp only [List.getElem_cons_zero]
  rw [byte_back v h0 h1]
end Go.Proofs.YtmmakknhaacplaaGreatDoor
