import Derived.Test.YthblllanofnmmaaP16
/-
  Stage 3, instr: appendInst.
-/
namespace Go.Proofs.Ythblllanofnmmaa
open Go.RowKit

theorem infoByte : (Try.prog.info? 5).map (fun i => (i.zero, i.size, i.bytes)) = some (some (.int .u8 0), 1, 1) := by kernel_rfl
theorem info_parts {t : TypeId} {z : Value} {s b : Nat} (h : (Try.prog.info? t).map (fun i => (i.zero, i.size, i.bytes)) = some (some z, s, b)) :
    ∃ i, Try.prog.info? t = some i ∧ i.zero = some z ∧ i.size = s ∧ i.bytes = b := by
  obtain ⟨i, hi, he⟩ := Option.map_eq_some_iff.1 h
  simp only [Prod.mk.injEq] at he
  exact ⟨i, hi, he.1, he.2.1, he.2.2⟩
/-- An instruction's bytes. -/
def bytesI (k : Ins) : List Int := [k.op, k.a % 256, k.b % 256, k.c % 256, k.m % 256, k.m % 4294967296 / 256 % 256, k.m % 4294967296 / 65536 % 256, k.m % 4294967296 / 16777216]
def bytesOf (k : Ins) : List UInt8 := (bytesI k).map fun n => UInt8.ofNat n.toNat
theorem byteV_of (n : Int) (h0 : 0 ≤ n) (h1 : n < 256) : byteV (UInt8.ofNat n.toNat) = .int .u8 n := by
  unfold byteV
  rw [UInt8.toNat_ofNat']
  congr 1
  omega
theorem bytes_vals (k : Ins) (h0 : 0 ≤ k.op) (h1 : k.op < 256) : (bytesOf k).map byteV = (bytesI k).map (Value.int .u8) := by
  simp only [bytesOf, bytesI, List.map_cons, List.map_nil]
  rw [byteV_of _ h0 h1, byteV_of _ (by omega) (by omega), byteV_of _ (by omega) (by omega), byteV_of _ (by omega) (by omega), byteV_of _ (by omega) (by omega), byteV_of _ (by omega) (by omega), byteV_of _ (by omega) (by omega), byteV_of _ (by omega) (by omega)]
theorem bytesOf_length (k : Ins) : (bytesOf k).length = 8 := rfl
theorem size_one (w : World) (o : Obj) : (w.alloc o).heap.size = w.heap.size + 1 := World.size_alloc w o
theorem news_at {w : World} {X : Nat} {cs : List Value} (h : At w X cs.toArray) : ∀ j u, cs[j]? = some u → w.cell? ((⟨X, 0, none⟩ : Addr).add j) = some u := by
  intro j u hj
  have ea : (⟨X, 0, none⟩ : Addr).add j = ⟨X, j, none⟩ := by by_cases h0 : j = 0 <;> simp [Addr.add, h0]
  rw [ea, h.2.1]
  simpa using hj
theorem wpList_append_bytes {ops : Array Oper} {rest : List Oper} {o : Oper} {a : Act} {Q : Exit → Act → World → Prop} {w : World} (hgd : o.guard = none) (s x : Operand)
    (ho : o.op = .call { callee := .builtin .append, args := #[s, x], argTypes := #[92, 92] })
    (base : Nat) (v : Value) (B news : List UInt8) (hs : a.eval s = v) (hB : BOwn w base v B)
    (X m : Nat) (hx : a.eval x = .slice (some ⟨X, 0, none⟩) m m) (hX : At w X (news.map byteV).toArray) (hm : news.length = m) (hm0 : 0 < m) (hlen : B.length + m ≤ 140737488355328) (hbase : base ≤ w.heap.size)
    (h : ∀ g cap w', BOwn w' base (.slice (some ⟨g, 0, none⟩) (B.length + m) cap) (B ++ news) → w.grownBy w' v.ownBlock → wpList Try.prog ops Q rest (a.put o.dst (.slice (some ⟨g, 0, none⟩) (B.length + m) cap)) w') :
    wpList Try.prog ops Q (o :: rest) a w := by
  obtain ⟨i0, hi, hz0, hz1, hz2⟩ := info_parts infoByte
  refine wpList_append_lies _ hgd s x 92 ho base 5 i0 (.int .u8 0) 1 1 Try.underlying92 hi hz0 hz1 hz2 rfl (by decide)
    v B.length (B.map byteV) hs hB ⟨X, 0, none⟩ m m (news.map byteV) hx (by simp [hm]) (news_at hX) (fun u hu => by obtain ⟨b, _, rfl⟩ := List.mem_map.1 hu; rfl) hm0 (by unfold maxLen; omega) (by omega) hbase _ rfl ?_
  intro g cap w' h1 h2 _ _
  refine h g cap w' ?_ h2
  unfold BOwn
  rw [List.length_append, hm, List.map_append]
  exact h1
end Go.Proofs.Ythblllanofnmmaa


/-
  Stage 3, instr: Right.
-/
namespace Go.Proofs.Ythblllanofnmmaa
open Go.RowKit

theorem str_list (l : List UInt8) : (str l).toList = l := by
  rw [ByteArray.toList_eq]; rfl
end Go.Proofs.Ythblllanofnmmaa
