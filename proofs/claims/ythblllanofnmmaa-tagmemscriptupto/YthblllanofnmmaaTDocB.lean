import Derived.Test.YthblllanofnmmaaP37
/-
  Stage 6, tagmem: the document's memory: bytes, new ones.
-/
namespace Go.Proofs.Ythblllanofnmmaa
namespace T
open Go.RowKit

theorem string_of (w : World) (k c : Nat) (b : Nat → UInt8) (h : YRow w k b) : (convert 92 9 (.slice (some ⟨k, 0, none⟩) 65536 c)).run Try.prog w = .ok (.string (allB b)) w := by
  have := run_convert_bytes_back (P := Try.prog) w 92 9 5 ⟨k, 0, none⟩ c (rowB b 0 65536) Try.underlying92 Try.underlying5 Try.underlying9 (fun j hj => by
    rw [rowB_len] at hj
    rw [addr_add, (h.at_ j hj).1]
    simp [bv, rowB])
  rw [rowB_len] at this
  exact this
set_option maxHeartbeats 1000000 in
theorem dBytes_any (S : Nat → Prop) (d : Nat) (b : Nat → UInt8) (tg : Nat → Bool) (cp : Nat → Cp) (w : World) (h : DIn S w d b tg cp) :
    Calls Try.prog 28 #[.pointer (some ⟨d, 0, none⟩)] w fun x w' => x = .returned (.string (allB b)) ∧ Below w.heap.size w w' := by
  obtain ⟨kb, kt, kc, hd, _⟩ := h.go
  have c0 := hd.c0
  have hs := string_of w kb 65536 b hd.yr
  generalize allB b = N at *
  replace h := Hid.mk h
  replace hd := Hid.mk hd
  go_enter Try.func28, Try.ntmps28
  go_wp2_with fail
  go_ret
  exact ⟨rfl, Below.refl _ _⟩
def rowByte : Array Value := madeCells (Value.cells (.int .u8 0)) 65536
theorem infoByte : (Try.prog.info? 5).map (fun i => (i.zero, i.size, i.bytes)) = some (some (.int .u8 0), 1, 1) := by kernel_rfl
theorem make_byte (w : World) : (Instr.makeSlice 92 (.int .i64 65536) (.int .i64 65536)).run Try.prog w = .ok (.slice (some ⟨w.heap.size, 0, none⟩) 65536 65536) (w.alloc (.cells rowByte 5)) := by
  obtain ⟨i0, hi, hz0, hz1, hz2⟩ := info_parts' infoByte
  have := run_makeSlice (P := Try.prog) w 92 5 i0 (.int .u8 0) Try.underlying92 hi hz0 .i64 .i64 65536 65536 (by decide) (by decide) (by rw [hz1]; decide) (by rw [hz2]; decide) (by decide)
  rw [hz1] at this
  exact this
theorem rowByte_at (g : Nat) (h : g < 65536) : rowByte[g]? = some (.int .u8 0) := by
  simp [rowByte, madeCells, h, Value.cells, Nat.mod_one]
theorem at4 (w : World) (A B C D : Array Value) (ta tb tc td : TypeId) :
    At ((((w.alloc (.cells A ta)).alloc (.cells B tb)).alloc (.cells C tc)).alloc (.cells D td)).drew w.heap.size A ∧ At ((((w.alloc (.cells A ta)).alloc (.cells B tb)).alloc (.cells C tc)).alloc (.cells D td)).drew (w.heap.size + 1) B ∧ At ((((w.alloc (.cells A ta)).alloc (.cells B tb)).alloc (.cells C tc)).alloc (.cells D td)).drew (w.heap.size + 1 + 1) C ∧ At ((((w.alloc (.cells A ta)).alloc (.cells B tb)).alloc (.cells C tc)).alloc (.cells D td)).drew (w.heap.size + 1 + 1 + 1) D ∧ Below w.heap.size w ((((w.alloc (.cells A ta)).alloc (.cells B tb)).alloc (.cells C tc)).alloc (.cells D td)).drew :=
  ⟨((((At.new w A ta).alloc _).alloc _).alloc _).drew, (((At.at_ (w.alloc _) B tb (by simp)).alloc _).alloc _).drew, ((At.at_ ((w.alloc _).alloc _) C tc (by simp)).alloc _).drew, (At.at_ (((w.alloc _).alloc _).alloc _) D td (by simp)).drew, Below.drew (((((Below.refl _ w).alloc (Nat.le_refl _) _).alloc (by simp) _).alloc (by simp; omega) _).alloc (by simp; omega) _)⟩
theorem Empty_fin (w W : World) (kb kt kc d : Nat) (hY : At W kb rowByte) (hB : At W kt rowBool) (hC : At W kc rowCap) (hD : At W d #[.slice (some ⟨kb, 0, none⟩) 65536 65536, .slice (some ⟨kt, 0, none⟩) 4096 4096, .slice (some ⟨kc, 0, none⟩) 4096 4096])
    (hn : d ≠ kb ∧ d ≠ kt ∧ d ≠ kc ∧ kb ≠ kt ∧ kb ≠ kc ∧ kt ≠ kc) (hg : w.heap.size ≤ kb ∧ w.heap.size ≤ kt ∧ w.heap.size ≤ kc ∧ w.heap.size ≤ d) (hb : Below w.heap.size w W) :
    ∃ d' S, Ending.returned (.pointer (some ⟨d, 0, none⟩)) = .returned (.pointer (some ⟨d', 0, none⟩)) ∧ DIn S W d' (fun _ => 0) (fun _ => false) (fun _ => Cp.zero) ∧ (∀ k, S k → w.heap.size ≤ k) ∧ Below w.heap.size w W := by
  refine ⟨d, fun k => k = d ∨ k = kb ∨ k = kt ∨ k = kc, rfl, ⟨kb, kt, kc, ⟨hD.1, hD.2.1 0, hD.2.1 1, hD.2.1 2, ⟨hY.1, fun g h => ⟨(hY.2.1 g).trans (rowByte_at g h), hY.2.2 g⟩⟩, ⟨hB.1, fun g h => ⟨(hB.2.1 g).trans (rowBool_at g h), hB.2.2 g⟩⟩, ⟨hC.1, fun g h => ⟨?_, ?_, ?_, ?_, ?_⟩, fun o => hC.2.2 o⟩, hn⟩, fun k => Iff.rfl⟩, fun k q => by omega, hb⟩
  · exact (hC.2.1 _).trans (rowCap_at g 0 h (by omega))
  · exact (hC.2.1 _).trans (rowCap_at g 1 h (by omega))
  · exact (hC.2.1 _).trans (rowCap_at g 2 h (by omega))
  · exact (hC.2.1 _).trans (rowCap_at g 3 h (by omega))
  · exact (hC.2.1 _).trans (rowCap_at g 4 h (by omega))
set_option maxHeartbeats 2000000 in
theorem Empty_any (w : World) : Calls Try.prog 16 #[] w fun x w' => ∃ d S, x = .returned (.pointer (some ⟨d, 0, none⟩)) ∧ DIn S w' d (fun _ => 0) (fun _ => false) (fun _ => Cp.zero) ∧ (∀ k, S k → w.heap.size ≤ k) ∧ Below w.heap.size w w' := by
  have mY := make_byte
  have mB := make_bool
  have mC := make_cap
  go_enter Try.func16, Try.ntmps16
  go_wp2_with fail
  go_region
  all_goals
    go_wp2_with fail
    go_ret
    first
      | exact Empty_fin w _ w.heap.size (w.heap.size + 1) (w.heap.size + 1 + 1) (w.heap.size + 1 + 1 + 1) (at4 w _ _ _ _ _ _ _ _).1 (at4 w _ _ _ _ _ _ _ _).2.1 (at4 w _ _ _ _ _ _ _ _).2.2.1 (at4 w _ _ _ _ _ _ _ _).2.2.2.1 (by omega) (by omega) (at4 w _ _ _ _ _ _ _ _).2.2.2.2
      | exact Empty_fin w _ w.heap.size (w.heap.size + 1 + 1) (w.heap.size + 1) (w.heap.size + 1 + 1 + 1) (at4 w _ _ _ _ _ _ _ _).1 (at4 w _ _ _ _ _ _ _ _).2.2.1 (at4 w _ _ _ _ _ _ _ _).2.1 (at4 w _ _ _ _ _ _ _ _).2.2.2.1 (by omega) (by omega) (at4 w _ _ _ _ _ _ _ _).2.2.2.2
      | exact Empty_fin w _ (w.heap.size + 1) w.heap.size (w.heap.size + 1 + 1) (w.heap.size + 1 + 1 + 1) (at4 w _ _ _ _ _ _ _ _).2.1 (at4 w _ _ _ _ _ _ _ _).1 (at4 w _ _ _ _ _ _ _ _).2.2.1 (at4 w _ _ _ _ _ _ _ _).2.2.2.1 (by omega) (by omega) (at4 w _ _ _ _ _ _ _ _).2.2.2.2
      | exact Empty_fin w _ (w.heap.size + 1) (w.heap.size + 1 + 1) w.heap.size (w.heap.size + 1 + 1 + 1) (at4 w _ _ _ _ _ _ _ _).2.1 (at4 w _ _ _ _ _ _ _ _).2.2.1 (at4 w _ _ _ _ _ _ _ _).1 (at4 w _ _ _ _ _ _ _ _).2.2.2.1 (by omega) (by omega) (at4 w _ _ _ _ _ _ _ _).2.2.2.2
      | exact Empty_fin w _ (w.heap.size + 1 + 1) w.heap.size (w.heap.size + 1) (w.heap.size + 1 + 1 + 1) (at4 w _ _ _ _ _ _ _ _).2.2.1 (at4 w _ _ _ _ _ _ _ _).1 (at4 w _ _ _ _ _ _ _ _).2.1 (at4 w _ _ _ _ _ _ _ _).2.2.2.1 (by omega) (by omega) (at4 w _ _ _ _ _ _ _ _).2.2.2.2
      | exact Empty_fin w _ (w.heap.size + 1 + 1) (w.heap.size + 1) w.heap.size (w.heap.size + 1 + 1 + 1) (at4 w _ _ _ _ _ _ _ _).2.2.1 (at4 w _ _ _ _ _ _ _ _).2.1 (at4 w _ _ _ _ _ _ _ _).1 (at4 w _ _ _ _ _ _ _ _).2.2.2.1 (by omega) (by omega) (at4 w _ _ _ _ _ _ _ _).2.2.2.2
end T
end Go.Proofs.Ythblllanofnmmaa
