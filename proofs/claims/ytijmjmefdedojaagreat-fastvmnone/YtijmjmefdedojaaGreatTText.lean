/-
  Stage 6, tagmem: all bytes, as a text.
-/
import Derived.Test.YtijmjmefdedojaaGreatTShelf
import Derived.Test.YtijmjmefdedojaaGreatTCap
namespace Go.Proofs.YtijmjmefdedojaaGreat
namespace T
open Go.RowKit

/-- All bytes from an address on. -/
def rowB (b : Nat → UInt8) (a n : Nat) : List UInt8 := (List.range n).map fun i => b (a + i)
theorem rowB_len (b : Nat → UInt8) (a n : Nat) : (rowB b a n).length = n := by simp [rowB]
theorem rowB_add (b : Nat → UInt8) (a n m : Nat) : rowB b a (n + m) = rowB b a n ++ rowB b (a + n) m := by
  unfold rowB
  rw [List.range_add, List.map_append, List.map_map]
  simp [Function.comp_def, Nat.add_assoc]
theorem byteCells_add (l m : List UInt8) : Lib.byteCells (l ++ m) = Lib.byteCells l ++ Lib.byteCells m := by simp [Lib.byteCells]
theorem byteCells_one (l : List UInt8) : ∀ u ∈ Lib.byteCells l, u.oneCell' = true := by
  intro u hu
  simp only [Lib.byteCells, List.mem_map] at hu
  obtain ⟨x, _, rfl⟩ := hu
  rfl
theorem byteCells_len (l : List UInt8) : (Lib.byteCells l).length = l.length := by simp [Lib.byteCells]
theorem rowB_at (b : Nat → UInt8) (a n j : Nat) (u : Value) (h : (Lib.byteCells (rowB b a n))[j]? = some u) : j < n ∧ u = bv (b (a + j)) := by
  by_cases hj : j < n
  · simp [Lib.byteCells, rowB, hj] at h
    exact ⟨hj, h.symm⟩
  · rw [List.getElem?_eq_none (by rw [byteCells_len, rowB_len]; omega)] at h
    simp at h
theorem addr_add (k j : Nat) : (⟨k, 0, none⟩ : Addr).add j = ⟨k, j, none⟩ := by by_cases h0 : j = 0 <;> simp [Addr.add, h0]
/-- How the builder stands behind so many pages. -/
structure Tx (w W : World) (b : Nat → UInt8) (i : Nat) : Prop where
  bu : Lib.BuilderAt 113 5 (w.heap.size + 1) (w.heap.size + 1) (.pointer (some ⟨w.heap.size + 1, 0, none⟩)) (Lib.byteCells (rowB b 0 (i * 1024))) W
  be : Below (w.heap.size + 1) (w.alloc (.cells (Array.replicate 1024 (.int .u8 0)) 109)) W
theorem Tx.sz {w W : World} {b : Nat → UInt8} {i : Nat} (h : Tx w W b i) : w.heap.size + 1 ≤ W.heap.size := by
  have := h.be.size
  simpa using this
set_option maxRecDepth 100000 in
set_option maxHeartbeats 4000000 in
theorem text_any (S : Nat → Prop) (a : Nat) (b : Nat → UInt8) (w : World) (h : PgIn S w a b) :
    Calls Tryz.prog 38 #[.pointer (some ⟨a, 0, none⟩)] w fun x w' => x = .returned (.string ⟨(rowB b 0 65536).toArray⟩) ∧ Below w.heap.size w w' := by
  obtain ⟨pg, h⟩ := h
  have hB0 : Below w.heap.size w (w.alloc (.cells (Array.replicate 1024 (.int .u8 0)) 109)) := (Below.refl _ w).alloc (Nat.le_refl _) _
  have hGr := bGrow (w.heap.size + 1) (w.heap.size + 1) 65536 ((w.alloc (.cells (Array.replicate 1024 (.int .u8 0)) 109)).alloc (.cells #[.pointer none, .slice none 0 0] 113)) (Nat.le_refl _) (by
    have := (MapKept.heap_alloc (w.alloc (.cells (Array.replicate 1024 (.int .u8 0)) 109)) (.cells #[.pointer none, .slice none 0 0] 113)).1
    rwa [World.size_alloc] at this) (by simp) (by decide)
  -- the cells of a world behind so many pages
  have hold : ∀ W i, Tx w W b i → Pg S W a pg b ∧ ∀ j, j < 1024 → W.cell? ⟨w.heap.size, j, none⟩ = some (.int .u8 0) := by
    intro W i hT
    have h1 := h.keep (w' := W) (by have := hT.sz; omega) (fun o _ => ⟨(hT.be.cell (p := ⟨a, o, none⟩) (by have := h.lt; show a < w.heap.size + 1; omega)).trans (hB0.cell (p := ⟨a, o, none⟩) h.lt), (hT.be.frozen (p := ⟨a, o, none⟩) (by have := h.lt; show a < w.heap.size + 1; omega)).trans (hB0.frozen (p := ⟨a, o, none⟩) h.lt)⟩) (fun k _ hk => (hT.be.block k (by omega)).trans (hB0.block k hk))
    refine ⟨h1, fun j hj => ?_⟩
    rw [hT.be.cell (p := ⟨w.heap.size, j, none⟩) (by show w.heap.size < w.heap.size + 1; omega), World.cell?_alloc_new]
    simp [hj]
  have hW : ∀ W i k, i < 64 → Tx w W b i → (k < w.heap.size + 1 ∧ ∀ j, j < 1024 → W.cell? ⟨k, j, none⟩ = some (bv (b (i * 1024 + j)))) → Calls Tryz.prog 48 #[.pointer (some ⟨w.heap.size + 1, 0, none⟩), .slice (some ⟨k, 0, none⟩) 1024 1024] W fun e w' => e = .returned (.tuple #[.int .i64 1024, .nilIface]) ∧ Tx w w' b (i + 1) := by
    intro W i k hi hT ⟨hk, hc⟩
    have := bWrite (w.heap.size + 1) (w.heap.size + 1) _ ⟨k, 0, none⟩ 1024 1024 (Lib.byteCells (rowB b (i * 1024) 1024)) W (.inr hT.bu) (by rw [byteCells_len, rowB_len]) (fun j u hu => by
      obtain ⟨h1, rfl⟩ := rowB_at _ _ _ _ _ hu
      rw [addr_add]; exact hc j h1) hk (byteCells_one _) (by rw [byteCells_len, rowB_len]; omega) hT.sz
    refine this.mono ?_
    rintro x w' ⟨rfl, h1, h2⟩
    refine ⟨rfl, ?_, hT.be.trans h2⟩
    rw [show (i + 1) * 1024 = i * 1024 + 1024 by omega, rowB_add, byteCells_add, Nat.zero_add]
    exact h1
  have hSt : ∀ W, Tx w W b 64 → Calls Tryz.prog 49 #[.pointer (some ⟨w.heap.size + 1, 0, none⟩)] W fun e w' => e = .returned (.string ⟨(rowB b 0 65536).toArray⟩) ∧ Below w.heap.size w w' := by
    intro W hT
    refine (bString (w.heap.size + 1) (w.heap.size + 1) (rowB b 0 65536) W (.inr hT.bu) hT.sz).mono ?_
    rintro x w' ⟨rfl, h1⟩
    exact ⟨rfl, (hB0.trans (hT.be.mono (by omega))).trans (h1.mono (by omega))⟩
  replace h := Hid.mk h
  replace hB0 := Hid.mk hB0
  replace hold := Hid.mk hold
  replace hW := Hid.mk hW
  replace hSt := Hid.mk hSt
  have pz := page_zero
  generalize hR : (rowB b 0 65536).toArray = R at *
  go_enter Tryz.func38, Tryz.ntmps38
  go_wp2_with fail
  refine hGr.mono ?_
  rintro x w1 ⟨rfl, h1, h2⟩
  have hT : Tx w w1 b 0 := ⟨by rw [Nat.zero_mul]; exact h1, ((Below.refl _ _).alloc (by simp) _).trans h2⟩
  replace hT := Hid.mk hT
  clear h1 h2 hGr
  go_wp2_with fail
  go_loopw [9] (fun v wr => ∃ i : Nat, v = .int .i64 i ∧ i ≤ 64 ∧ Tx w wr b i) (fun v _ => 64 - (intOf v).toNat)
  case atStart => exact ⟨0, rfl, by omega, hT.out⟩
  case round =>
    clear hT
    obtain ⟨i, rfl, hi, hT⟩ := hrel
    by_cases hlt : i < 64
    · have jl : (i : Int) < 64 := by omega
      obtain ⟨g1, g2⟩ := hold.out wr i hT
      have c1 := (g1.box i hlt).1
      cases e : pg i with
      | none =>
        have hw := hW.out wr i w.heap.size hlt hT ⟨by omega, fun j hj => by rw [g2 j hj, g1.zero i hlt e j hj]; rfl⟩
        rw [e] at c1
        simp only [ptr, Option.map_none] at c1
        replace g1 := Hid.mk g1
        replace g2 := Hid.mk g2
        replace hT := Hid.mk hT
        go_wp2_with fail
        refine hw.mono ?_
        rintro x w2 ⟨rfl, hT2⟩
        replace hT2 := Hid.mk hT2
        go_wp2_with fail
        exact ⟨⟨i + 1, by go_num, by omega, hT2.out⟩, by simp [intOf]; omega⟩
      | some k =>
        have hp := g1.page i k hlt e
        have hk : k < w.heap.size := (h.out.page i k hlt e).2.1
        have hw := hW.out wr i k hlt hT ⟨by omega, fun j hj => (hp.2.2 j hj).1⟩
        rw [e] at c1
        simp only [ptr, Option.map_some] at c1
        replace g1 := Hid.mk g1
        replace g2 := Hid.mk g2
        replace hT := Hid.mk hT
        replace hp := Hid.mk hp
        go_wp2_with fail
        refine hw.mono ?_
        rintro x w2 ⟨rfl, hT2⟩
        replace hT2 := Hid.mk hT2
        go_wp2_with fail
        exact ⟨⟨i + 1, by go_num, by omega, hT2.out⟩, by simp [intOf]; omega⟩
    · have jl : ¬ (i : Int) < 64 := by omega
      have : i = 64 := by omega
      subst this
      have hs := hSt.out wr hT
      replace hT := Hid.mk hT
      go_wp2_with fail
      refine hs.mono ?_
      rintro x w2 ⟨rfl, hB⟩
      replace hB := Hid.mk hB
      go_wp2_with fail
      go_ret
      exact ⟨rfl, hB.out⟩
end T
end Go.Proofs.YtijmjmefdedojaaGreat
