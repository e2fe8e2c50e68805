/-
  Stage 3, instr: appendInst.
-/
import Derived.Test.YtknefcpfmggonaaDoorIList
namespace Go.Proofs.YtknefcpfmggonaaDoor
open Go.RowKit

theorem infoByte : (Tryd.prog.info? 5).map (fun i => (i.zero, i.size, i.bytes)) = some (some (.int .u8 0), 1, 1) := by kernel_rfl
theorem info_parts {t : TypeId} {z : Value} {s b : Nat} (h : (Tryd.prog.info? t).map (fun i => (i.zero, i.size, i.bytes)) = some (some z, s, b)) :
    ∃ i, Tryd.prog.info? t = some i ∧ i.zero = some z ∧ i.size = s ∧ i.bytes = b := by
  obtain ⟨i, hi, he⟩ := Option.map_eq_some_iff.1 h
  simp only [Prod.mk.injEq] at he
  exact ⟨i, hi, he.1, he.2.1, he.2.2⟩
/-- An instruction's bytes. -/
def bytesI (k : Ins) : List Int := [k.op, k.a % 256, k.b % 256, k.c % 256, k.m % 256, k.m % 4294967296 / 256 % 256, k.m % 4294967296 / 65536 % 256, k.m % 4294967296 / 16777216]
def bytesOf (k : Ins) : List UInt8 := (bytesI k).map fun n => UInt8.ofNat n.toNat
theorem byteV_of (n : Int) (h0 : 0 ≤ n) (h1 : n < 256) : byteV (UInt8.ofNat n.toNat) = .int .u8 n := by
  unfold byteV
  rw [UInt8.toNat_ofNat']
  congr 1
  omega
theorem bytes_vals (k : Ins) (h0 : 0 ≤ k.op) (h1 : k.op < 256) : (bytesOf k).map byteV = (bytesI k).map (Value.int .u8) := by
  simp only [bytesOf, bytesI, List.map_cons, List.map_nil]
  rw [byteV_of _ h0 h1, byteV_of _ (by omega) (by omega), byteV_of _ (by omega) (by omega), byteV_of _ (by omega) (by omega), byteV_of _ (by omega) (by omega), byteV_of _ (by omega) (by omega), byteV_of _ (by omega) (by omega), byteV_of _ (by omega) (by omega)]
theorem bytesOf_length (k : Ins) : (bytesOf k).length = 8 := rfl
theorem size_one (w : World) (o : Obj) : (w.alloc o).heap.size = w.heap.size + 1 := World.size_alloc w o
theorem news_at {w : World} {X : Nat} {cs : List Value} (h : At w X cs.toArray) : ∀ j u, cs[j]? = some u → w.cell? ((⟨X, 0, none⟩ : Addr).add j) = some u := by
  intro j u hj
  have ea : (⟨X, 0, none⟩ : Addr).add j = ⟨X, j, none⟩ := by by_cases h0 : j = 0 <;> simp [Addr.add, h0]
  rw [ea, h.2.1]
  simpa using hj
end Go.Proofs.YtknefcpfmggonaaDoor
