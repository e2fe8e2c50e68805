import Derived.Test.YtlmgnfoopimmlaaGreatP53
import Derived.Test.YtlmgnfoopimmlaaGreatP49
/-
  Stage 13, fastvm: two memories, but for some bytes.
-/
namespace Go.Proofs.YtlmgnfoopimmlaaGreat
namespace Z
open Go.RowKit
set_option maxRecDepth 100000 in
set_option maxHeartbeats 4000000 in
theorem changed_any (X Y : ByteArray) (a n : Nat) (w : World) (hx : X.size = 65536) (hy : Y.size = 65536) (ha : a + n ≤ 65536) (h1 : X.extract 0 a = Y.extract 0 a) (h2 : X.extract (a + n) 65536 = Y.extract (a + n) 65536) :
    Calls Tryz.prog 16 #[.string X, .string Y, .int .u64 a, .int .u64 n] w fun x w' => x = .returned (.bool true) ∧ Below w.heap.size w w' := by
  have q1 : ¬ (65536 : Int) < (a : Int) := by omega
  have q2 : IntKind.u64.wrap (65536 - (a : Int)) = 65536 - (a : Int) := by rw [IntKind.wrap_u64]; omega
  have q3 : ¬ (65536 - (a : Int)) < (n : Int) := by omega
  have q4 : IntKind.u64.wrap ((a : Int) + (n : Int)) = (a : Int) + (n : Int) := by rw [IntKind.wrap_u64]; omega
  have hx2 : (X.size : Int) = 65536 := by omega
  have hy2 : (Y.size : Int) = 65536 := by omega
  go_enter Tryz.func16, Tryz.ntmps16
  go_wp2_with fail
  go_quiet (fail)
  go_wp2_with fail
  go_ret
  exact ⟨rfl, ⟨rfl, rfl, rfl, Nat.le_refl _, fun _ _ => rfl⟩⟩
end Z
end Go.Proofs.YtlmgnfoopimmlaaGreat


/-
  Stage 13, fastvm: memories as texts.
-/
namespace Go.Proofs.YtlmgnfoopimmlaaGreat
namespace Z
open Go.RowKit
open T (Sep Ob Kp Mf FlIn boxOb)

def MV (m : Nat → UInt8) : ByteArray := ⟨(T.rowB m 0 65536).toArray⟩
theorem MV_size (m : Nat → UInt8) : (MV m).size = 65536 := by
  show (T.rowB m 0 65536).toArray.size = 65536
  rw [List.size_toArray, T.rowB_len]
theorem MV_ext (m m' : Nat → UInt8) (lo hi : Nat) (h : ∀ i, lo ≤ i → i < hi → m i = m' i) (hh : hi ≤ 65536) : (MV m).extract lo hi = (MV m').extract lo hi := by
  apply ByteArray.ext
  rw [ByteArray.data_extract, ByteArray.data_extract]
  apply Array.ext_getElem?
  intro i
  rw [Array.getElem?_extract, Array.getElem?_extract]
  have e1 : (MV m).data.size = 65536 := MV_size m
  have e2 : (MV m').data.size = 65536 := MV_size m'
  rw [e1, e2]
  split
  · rename_i hi2
    have hlo : lo + i < hi := by omega
    have q : ∀ m : Nat → UInt8, (MV m).data[lo + i]? = some (m (lo + i)) := fun m => by
      show (T.rowB m 0 65536).toArray[lo + i]? = _
      rw [List.getElem?_toArray]
      unfold T.rowB
      rw [List.getElem?_map, List.getElem?_range (by omega)]
      simp
    rw [q, q, h _ (by omega) hlo]
  · rfl
theorem mem_mv (B : Nat) (W : World) (a : Nat) (P : Pr) (s : Fm) (l : List Ob) (h : MIn B W a P s l) :
    Calls Tryz.prog 13 #[.pointer (some ⟨a, 0, none⟩)] W fun x w' => x = .returned (.string (MV s.m)) ∧ Below W.heap.size W w' := memory_any B W a P s l h
/-- Nothing but some bytes has changed. -/
theorem chg_mv (m m' : Nat → UInt8) (a n : Int) (w : World) (ha : 0 ≤ a) (hn : 0 ≤ n) (h : a + n ≤ 65536) (hq : ∀ i : Nat, (i : Int) < a ∨ a + n ≤ i → m' i = m i) :
    Calls Tryz.prog 16 #[.string (MV m), .string (MV m'), .int .u64 a, .int .u64 n] w fun x w' => x = .returned (.bool true) ∧ Below w.heap.size w w' := by
  obtain ⟨k, rfl⟩ := Int.eq_ofNat_of_zero_le ha
  obtain ⟨j, rfl⟩ := Int.eq_ofNat_of_zero_le hn
  exact changed_any (MV m) (MV m') k j w (MV_size m) (MV_size m') (by omega) (MV_ext m m' 0 k (fun i _ hi => (hq i (by omega)).symm) (by omega)) (MV_ext m m' (k + j) 65536 (fun i hi _ => (hq i (by omega)).symm) (Nat.le_refl _))
/-- A box beside a machine, laid out of an answer of many cells. -/
theorem MIn.lay {B : Nat} {W : World} {a : Nat} {P : Pr} {s : Fm} {l : List Ob} (h : MIn B W a P s l) (cs vs : List Value) (ty : TypeId) (hl : vs.length = cs.length) :
    MIn B ((W.alloc (.cells cs.toArray ty)).setCells W.heap.size 0 vs) a P s (boxOb W.heap.size vs.toArray :: l) ∧ Below B W ((W.alloc (.cells cs.toArray ty)).setCells W.heap.size 0 vs) ∧ (W.alloc (.cells cs.toArray ty)).there W.heap.size 0 vs.length := by
  obtain ⟨h2, b2⟩ := h.new cs.toArray ty
  have hA := At.new W cs.toArray ty
  have hA9 := At.setAll hA vs hl
  obtain ⟨h3, b3⟩ := h2.side (o' := boxOb W.heap.size vs.toArray) hA9 (kp_setsZ _ W.heap.size vs 0) (fun _ r => .inl r)
  exact ⟨h3, b2.trans b3, hA.there 0 vs.length (by omega)⟩
end Z
end Go.Proofs.YtlmgnfoopimmlaaGreat
