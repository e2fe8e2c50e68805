/-
  Stage 6, tagmem: two memories of bytes alone, and the document's two.
-/
import Derived.Test.YtbmkefpgfifigaaTSep
import Derived.Test.YtbmkefpgfifigaaTOps
namespace Go.Proofs.Ytbmkefpgfifigaa
namespace T
open Go.RowKit

theorem Sep.drop {B : Nat} {W : World} {l1 l2 : List Ob} (h : Sep B W (l1 ++ l2)) : Sep B W l2 :=
  ⟨fun o ho => h.ins o (by simp [ho]), (List.pairwise_append.1 h.dis).2.1, fun o ho => h.ge o (by simp [ho])⟩
theorem cut_rule {X Y : Prop} (h : Hid X → Y) (x : X) : Y := h ⟨x⟩
structure Fst (w W : World) (a1 a2 kx ky e1 e2 : Nat) (B1 B2 E1 E2 : Nat → UInt8) (xs : List Ob) : Prop where
  go : ∃ F1 F2 D1 D2 t1 c1 t2 c2, Sep w.heap.size W (xs ++ [boxOb ky #[.pointer (some ⟨e1, 0, none⟩), .pointer (some ⟨e2, 0, none⟩)], dOb D2 e2 E2 t2 c2, dOb D1 e1 E1 t1 c1, boxOb kx #[.pointer (some ⟨a1, 0, none⟩), .pointer (some ⟨a2, 0, none⟩)], flOb F2 a2 B2, flOb F1 a1 B1])
  be : Below w.heap.size w W
theorem Fst.gr {w W : World} {a1 a2 kx ky e1 e2 : Nat} {B1 B2 E1 E2 : Nat → UInt8} {xs : List Ob} {W1 : World} (h : Fst w W a1 a2 kx ky e1 e2 B1 B2 E1 E2 xs) (hb : Below W.heap.size W W1) : Fst w W1 a1 a2 kx ky e1 e2 B1 B2 E1 E2 xs := by
  obtain ⟨F1, F2, D1, D2, t1, c1, t2, c2, s⟩ := h.go
  exact ⟨⟨F1, F2, D1, D2, t1, c1, t2, c2, s.gr hb⟩, h.be.trans (hb.mono h.be.size)⟩
theorem Fst.drop {w W : World} {a1 a2 kx ky e1 e2 : Nat} {B1 B2 E1 E2 : Nat → UInt8} {xs : List Ob} (h : Fst w W a1 a2 kx ky e1 e2 B1 B2 E1 E2 xs) : Fst w W a1 a2 kx ky e1 e2 B1 B2 E1 E2 [] := by
  obtain ⟨F1, F2, D1, D2, t1, c1, t2, c2, s⟩ := h.go
  exact ⟨⟨F1, F2, D1, D2, t1, c1, t2, c2, s.drop⟩, h.be⟩
theorem Fst.box {w W : World} {a1 a2 kx ky e1 e2 : Nat} {B1 B2 E1 E2 : Nat → UInt8} {xs : List Ob} (h : Fst w W a1 a2 kx ky e1 e2 B1 B2 E1 E2 xs) (cs : Array Value) (ty : TypeId) : Fst w (W.alloc (.cells cs ty)) a1 a2 kx ky e1 e2 B1 B2 E1 E2 (boxOb W.heap.size cs :: xs) := by
  obtain ⟨F1, F2, D1, D2, t1, c1, t2, c2, s⟩ := h.go
  exact ⟨⟨F1, F2, D1, D2, t1, c1, t2, c2, s.add (boxOb W.heap.size cs) (At.new W cs ty) (fun k q => by have : k = W.heap.size := q; omega) ((Below.refl _ W).alloc (Nat.le_refl _) _) h.be.size⟩, h.be.alloc h.be.size _⟩
theorem Fst.xs {w W : World} {a1 a2 kx ky e1 e2 : Nat} {B1 B2 E1 E2 : Nat → UInt8} {xs : List Ob} (h : Fst w W a1 a2 kx ky e1 e2 B1 B2 E1 E2 xs) : ∀ o ∈ xs, o.In W := by
  obtain ⟨F1, F2, D1, D2, t1, c1, t2, c2, s⟩ := h.go
  exact fun o ho => s.ins o (by simp [ho])
theorem Fst.bx {w W : World} {a1 a2 kx ky e1 e2 : Nat} {B1 B2 E1 E2 : Nat → UInt8} {xs : List Ob} (h : Fst w W a1 a2 kx ky e1 e2 B1 B2 E1 E2 xs) : At W kx #[.pointer (some ⟨a1, 0, none⟩), .pointer (some ⟨a2, 0, none⟩)] ∧ At W ky #[.pointer (some ⟨e1, 0, none⟩), .pointer (some ⟨e2, 0, none⟩)] ∧ w.heap.size ≤ kx ∧ w.heap.size ≤ ky := by
  obtain ⟨F1, F2, D1, D2, t1, c1, t2, c2, s⟩ := h.go
  exact ⟨s.ins (boxOb kx #[.pointer (some ⟨a1, 0, none⟩), .pointer (some ⟨a2, 0, none⟩)]) (by simp), s.ins (boxOb ky #[.pointer (some ⟨e1, 0, none⟩), .pointer (some ⟨e2, 0, none⟩)]) (by simp), s.ge (boxOb kx #[.pointer (some ⟨a1, 0, none⟩), .pointer (some ⟨a2, 0, none⟩)]) (by simp) kx rfl, s.ge (boxOb ky #[.pointer (some ⟨e1, 0, none⟩), .pointer (some ⟨e2, 0, none⟩)]) (by simp) ky rfl⟩
theorem Fst.loadF1 {w W : World} {a1 a2 kx ky e1 e2 : Nat} {B1 B2 E1 E2 : Nat → UInt8} {xs : List Ob} (h : Fst w W a1 a2 kx ky e1 e2 B1 B2 E1 E2 xs) (addr size : Nat) (ha : addr < 18446744073709551616) (hs : size < 18446744073709551616) :
    Calls Try.prog 17 #[.pointer (some ⟨a1, 0, none⟩), .int .u64 addr, .int .u64 size] W fun x w' => x = .returned (.tuple #[.int .u64 (ldV B1 addr size), .int .i64 (ldE addr size)]) ∧ Fst w w' a1 a2 kx ky e1 e2 B1 B2 E1 E2 xs := by
  obtain ⟨F1, F2, D1, D2, t1, c1, t2, c2, s⟩ := h.go
  refine (flLoad_any F1 a1 addr size B1 W (s.ins (flOb F1 a1 B1) (by simp)) ha hs).mono ?_
  rintro x w' ⟨rfl, hb⟩
  exact ⟨rfl, h.gr hb⟩
theorem Fst.loadD1 {w W : World} {a1 a2 kx ky e1 e2 : Nat} {B1 B2 E1 E2 : Nat → UInt8} {xs : List Ob} (h : Fst w W a1 a2 kx ky e1 e2 B1 B2 E1 E2 xs) (addr size : Nat) :
    Calls Try.prog 18 #[.pointer (some ⟨e1, 0, none⟩), .int .u64 addr, .int .u64 size] W fun x w' => x = .returned (.tuple #[.int .u64 (ldV E1 addr size), .int .i64 (ldE addr size)]) ∧ Fst w w' a1 a2 kx ky e1 e2 B1 B2 E1 E2 xs := by
  obtain ⟨F1, F2, D1, D2, t1, c1, t2, c2, s⟩ := h.go
  refine (dLoad_any D1 e1 addr size E1 t1 c1 W (s.ins (dOb D1 e1 E1 t1 c1) (by simp))).mono ?_
  rintro x w' ⟨rfl, hb⟩
  exact ⟨rfl, h.gr hb⟩
theorem Fst.bytesF1 {w W : World} {a1 a2 kx ky e1 e2 : Nat} {B1 B2 E1 E2 : Nat → UInt8} {xs : List Ob} (h : Fst w W a1 a2 kx ky e1 e2 B1 B2 E1 E2 xs) :
    Calls Try.prog 21 #[.pointer (some ⟨a1, 0, none⟩)] W fun x w' => x = .returned (.string (allB B1)) ∧ Fst w w' a1 a2 kx ky e1 e2 B1 B2 E1 E2 xs := by
  obtain ⟨F1, F2, D1, D2, t1, c1, t2, c2, s⟩ := h.go
  refine (flBytes_all F1 a1 B1 W (s.ins (flOb F1 a1 B1) (by simp))).mono ?_
  rintro x w' ⟨rfl, hb⟩
  exact ⟨rfl, h.gr hb⟩
theorem Fst.bytesD1 {w W : World} {a1 a2 kx ky e1 e2 : Nat} {B1 B2 E1 E2 : Nat → UInt8} {xs : List Ob} (h : Fst w W a1 a2 kx ky e1 e2 B1 B2 E1 E2 xs) :
    Calls Try.prog 22 #[.pointer (some ⟨e1, 0, none⟩)] W fun x w' => x = .returned (.string (allB E1)) ∧ Fst w w' a1 a2 kx ky e1 e2 B1 B2 E1 E2 xs := by
  obtain ⟨F1, F2, D1, D2, t1, c1, t2, c2, s⟩ := h.go
  refine (dBytes_any D1 e1 E1 t1 c1 W (s.ins (dOb D1 e1 E1 t1 c1) (by simp))).mono ?_
  rintro x w' ⟨rfl, hb⟩
  exact ⟨rfl, h.gr hb⟩
theorem Fst.storeF1 {w W : World} {a1 a2 kx ky e1 e2 : Nat} {B1 B2 E1 E2 : Nat → UInt8} {xs : List Ob} (h : Fst w W a1 a2 kx ky e1 e2 B1 B2 E1 E2 xs) (addr size n : Nat) (ha : addr < 18446744073709551616) (hs : size < 18446744073709551616) :
    Calls Try.prog 19 #[.pointer (some ⟨a1, 0, none⟩), .int .u64 addr, .int .u64 size, .int .u64 n] W fun x w' => x = .returned (.int .i64 (ldE addr size)) ∧ Fst w w' a1 a2 kx ky e1 e2 (stB B1 addr size n) B2 E1 E2 xs := by
  obtain ⟨F1, F2, D1, D2, t1, c1, t2, c2, s⟩ := h.go
  refine (flStore_any F1 a1 addr size n B1 W (s.ins (flOb F1 a1 B1) (by simp)) ha hs).mono ?_
  rintro x w' ⟨rfl, S', g1, g2⟩
  have s' := Sep.change (l1 := xs ++ [boxOb ky #[.pointer (some ⟨e1, 0, none⟩), .pointer (some ⟨e2, 0, none⟩)], dOb D2 e2 E2 t2 c2, dOb D1 e1 E1 t1 c1, boxOb kx #[.pointer (some ⟨a1, 0, none⟩), .pointer (some ⟨a2, 0, none⟩)], flOb F2 a2 B2]) (l2 := []) (o := flOb F1 a1 B1) (o' := flOb S' a1 (stB B1 addr size n)) (by rw [List.append_assoc]; exact s) g1 g2 h.be.size
  have hb := Sep.below (l1 := xs ++ [boxOb ky #[.pointer (some ⟨e1, 0, none⟩), .pointer (some ⟨e2, 0, none⟩)], dOb D2 e2 E2 t2 c2, dOb D1 e1 E1 t1 c1, boxOb kx #[.pointer (some ⟨a1, 0, none⟩), .pointer (some ⟨a2, 0, none⟩)], flOb F2 a2 B2]) (l2 := []) (o := flOb F1 a1 B1) (by rw [List.append_assoc]; exact s) g2 h.be.size
  exact ⟨rfl, ⟨S', F2, D1, D2, t1, c1, t2, c2, by rw [List.append_assoc] at s'; exact s'⟩, h.be.trans hb⟩
theorem Fst.storeD1 {w W : World} {a1 a2 kx ky e1 e2 : Nat} {B1 B2 E1 E2 : Nat → UInt8} {xs : List Ob} (h : Fst w W a1 a2 kx ky e1 e2 B1 B2 E1 E2 xs) (addr size n : Nat) (hn : n < 18446744073709551616) :
    Calls Try.prog 20 #[.pointer (some ⟨e1, 0, none⟩), .int .u64 addr, .int .u64 size, .int .u64 n] W fun x w' => x = .returned (.int .i64 (ldE addr size)) ∧ Fst w w' a1 a2 kx ky e1 e2 B1 B2 (stB E1 addr size n) E2 xs := by
  obtain ⟨F1, F2, D1, D2, t1, c1, t2, c2, s⟩ := h.go
  refine (dStore_any D1 e1 addr size n E1 t1 c1 W (s.ins (dOb D1 e1 E1 t1 c1) (by simp)) hn).mono ?_
  rintro x w' ⟨rfl, g1, g2⟩
  have s' := Sep.change (l1 := xs ++ [boxOb ky #[.pointer (some ⟨e1, 0, none⟩), .pointer (some ⟨e2, 0, none⟩)], dOb D2 e2 E2 t2 c2]) (l2 := [boxOb kx #[.pointer (some ⟨a1, 0, none⟩), .pointer (some ⟨a2, 0, none⟩)], flOb F2 a2 B2, flOb F1 a1 B1]) (o := dOb D1 e1 E1 t1 c1) (o' := dOb D1 e1 (stB E1 addr size n) (stG t1 addr size) c1) (by rw [List.append_assoc]; exact s) g1 (Mf.kpS g2) h.be.size
  have hb := Sep.below (l1 := xs ++ [boxOb ky #[.pointer (some ⟨e1, 0, none⟩), .pointer (some ⟨e2, 0, none⟩)], dOb D2 e2 E2 t2 c2]) (l2 := [boxOb kx #[.pointer (some ⟨a1, 0, none⟩), .pointer (some ⟨a2, 0, none⟩)], flOb F2 a2 B2, flOb F1 a1 B1]) (o := dOb D1 e1 E1 t1 c1) (by rw [List.append_assoc]; exact s) (Mf.kpS g2) h.be.size
  exact ⟨rfl, ⟨F1, F2, D1, D2, stG t1 addr size, c1, t2, c2, by rw [List.append_assoc] at s'; exact s'⟩, h.be.trans hb⟩
theorem Fst.loadF2 {w W : World} {a1 a2 kx ky e1 e2 : Nat} {B1 B2 E1 E2 : Nat → UInt8} {xs : List Ob} (h : Fst w W a1 a2 kx ky e1 e2 B1 B2 E1 E2 xs) (addr size : Nat) (ha : addr < 18446744073709551616) (hs : size < 18446744073709551616) :
    Calls Try.prog 17 #[.pointer (some ⟨a2, 0, none⟩), .int .u64 addr, .int .u64 size] W fun x w' => x = .returned (.tuple #[.int .u64 (ldV B2 addr size), .int .i64 (ldE addr size)]) ∧ Fst w w' a1 a2 kx ky e1 e2 B1 B2 E1 E2 xs := by
  obtain ⟨F1, F2, D1, D2, t1, c1, t2, c2, s⟩ := h.go
  refine (flLoad_any F2 a2 addr size B2 W (s.ins (flOb F2 a2 B2) (by simp)) ha hs).mono ?_
  rintro x w' ⟨rfl, hb⟩
  exact ⟨rfl, h.gr hb⟩
theorem Fst.loadD2 {w W : World} {a1 a2 kx ky e1 e2 : Nat} {B1 B2 E1 E2 : Nat → UInt8} {xs : List Ob} (h : Fst w W a1 a2 kx ky e1 e2 B1 B2 E1 E2 xs) (addr size : Nat) :
    Calls Try.prog 18 #[.pointer (some ⟨e2, 0, none⟩), .int .u64 addr, .int .u64 size] W fun x w' => x = .returned (.tuple #[.int .u64 (ldV E2 addr size), .int .i64 (ldE addr size)]) ∧ Fst w w' a1 a2 kx ky e1 e2 B1 B2 E1 E2 xs := by
  obtain ⟨F1, F2, D1, D2, t1, c1, t2, c2, s⟩ := h.go
  refine (dLoad_any D2 e2 addr size E2 t2 c2 W (s.ins (dOb D2 e2 E2 t2 c2) (by simp))).mono ?_
  rintro x w' ⟨rfl, hb⟩
  exact ⟨rfl, h.gr hb⟩
theorem Fst.bytesF2 {w W : World} {a1 a2 kx ky e1 e2 : Nat} {B1 B2 E1 E2 : Nat → UInt8} {xs : List Ob} (h : Fst w W a1 a2 kx ky e1 e2 B1 B2 E1 E2 xs) :
    Calls Try.prog 21 #[.pointer (some ⟨a2, 0, none⟩)] W fun x w' => x = .returned (.string (allB B2)) ∧ Fst w w' a1 a2 kx ky e1 e2 B1 B2 E1 E2 xs := by
  obtain ⟨F1, F2, D1, D2, t1, c1, t2, c2, s⟩ := h.go
  refine (flBytes_all F2 a2 B2 W (s.ins (flOb F2 a2 B2) (by simp))).mono ?_
  rintro x w' ⟨rfl, hb⟩
  exact ⟨rfl, h.gr hb⟩
theorem Fst.bytesD2 {w W : World} {a1 a2 kx ky e1 e2 : Nat} {B1 B2 E1 E2 : Nat → UInt8} {xs : List Ob} (h : Fst w W a1 a2 kx ky e1 e2 B1 B2 E1 E2 xs) :
    Calls Try.prog 22 #[.pointer (some ⟨e2, 0, none⟩)] W fun x w' => x = .returned (.string (allB E2)) ∧ Fst w w' a1 a2 kx ky e1 e2 B1 B2 E1 E2 xs := by
  obtain ⟨F1, F2, D1, D2, t1, c1, t2, c2, s⟩ := h.go
  refine (dBytes_any D2 e2 E2 t2 c2 W (s.ins (dOb D2 e2 E2 t2 c2) (by simp))).mono ?_
  rintro x w' ⟨rfl, hb⟩
  exact ⟨rfl, h.gr hb⟩
theorem Fst.storeF2 {w W : World} {a1 a2 kx ky e1 e2 : Nat} {B1 B2 E1 E2 : Nat → UInt8} {xs : List Ob} (h : Fst w W a1 a2 kx ky e1 e2 B1 B2 E1 E2 xs) (addr size n : Nat) (ha : addr < 18446744073709551616) (hs : size < 18446744073709551616) :
    Calls Try.prog 19 #[.pointer (some ⟨a2, 0, none⟩), .int .u64 addr, .int .u64 size, .int .u64 n] W fun x w' => x = .returned (.int .i64 (ldE addr size)) ∧ Fst w w' a1 a2 kx ky e1 e2 B1 (stB B2 addr size n) E1 E2 xs := by
  obtain ⟨F1, F2, D1, D2, t1, c1, t2, c2, s⟩ := h.go
  refine (flStore_any F2 a2 addr size n B2 W (s.ins (flOb F2 a2 B2) (by simp)) ha hs).mono ?_
  rintro x w' ⟨rfl, S', g1, g2⟩
  have s' := Sep.change (l1 := xs ++ [boxOb ky #[.pointer (some ⟨e1, 0, none⟩), .pointer (some ⟨e2, 0, none⟩)], dOb D2 e2 E2 t2 c2, dOb D1 e1 E1 t1 c1, boxOb kx #[.pointer (some ⟨a1, 0, none⟩), .pointer (some ⟨a2, 0, none⟩)]]) (l2 := [flOb F1 a1 B1]) (o := flOb F2 a2 B2) (o' := flOb S' a2 (stB B2 addr size n)) (by rw [List.append_assoc]; exact s) g1 g2 h.be.size
  have hb := Sep.below (l1 := xs ++ [boxOb ky #[.pointer (some ⟨e1, 0, none⟩), .pointer (some ⟨e2, 0, none⟩)], dOb D2 e2 E2 t2 c2, dOb D1 e1 E1 t1 c1, boxOb kx #[.pointer (some ⟨a1, 0, none⟩), .pointer (some ⟨a2, 0, none⟩)]]) (l2 := [flOb F1 a1 B1]) (o := flOb F2 a2 B2) (by rw [List.append_assoc]; exact s) g2 h.be.size
  exact ⟨rfl, ⟨F1, S', D1, D2, t1, c1, t2, c2, by rw [List.append_assoc] at s'; exact s'⟩, h.be.trans hb⟩
theorem Fst.storeD2 {w W : World} {a1 a2 kx ky e1 e2 : Nat} {B1 B2 E1 E2 : Nat → UInt8} {xs : List Ob} (h : Fst w W a1 a2 kx ky e1 e2 B1 B2 E1 E2 xs) (addr size n : Nat) (hn : n < 18446744073709551616) :
    Calls Try.prog 20 #[.pointer (some ⟨e2, 0, none⟩), .int .u64 addr, .int .u64 size, .int .u64 n] W fun x w' => x = .returned (.int .i64 (ldE addr size)) ∧ Fst w w' a1 a2 kx ky e1 e2 B1 B2 E1 (stB E2 addr size n) xs := by
  obtain ⟨F1, F2, D1, D2, t1, c1, t2, c2, s⟩ := h.go
  refine (dStore_any D2 e2 addr size n E2 t2 c2 W (s.ins (dOb D2 e2 E2 t2 c2) (by simp)) hn).mono ?_
  rintro x w' ⟨rfl, g1, g2⟩
  have s' := Sep.change (l1 := xs ++ [boxOb ky #[.pointer (some ⟨e1, 0, none⟩), .pointer (some ⟨e2, 0, none⟩)]]) (l2 := [dOb D1 e1 E1 t1 c1, boxOb kx #[.pointer (some ⟨a1, 0, none⟩), .pointer (some ⟨a2, 0, none⟩)], flOb F2 a2 B2, flOb F1 a1 B1]) (o := dOb D2 e2 E2 t2 c2) (o' := dOb D2 e2 (stB E2 addr size n) (stG t2 addr size) c2) (by rw [List.append_assoc]; exact s) g1 (Mf.kpS g2) h.be.size
  have hb := Sep.below (l1 := xs ++ [boxOb ky #[.pointer (some ⟨e1, 0, none⟩), .pointer (some ⟨e2, 0, none⟩)]]) (l2 := [dOb D1 e1 E1 t1 c1, boxOb kx #[.pointer (some ⟨a1, 0, none⟩), .pointer (some ⟨a2, 0, none⟩)], flOb F2 a2 B2, flOb F1 a1 B1]) (o := dOb D2 e2 E2 t2 c2) (by rw [List.append_assoc]; exact s) (Mf.kpS g2) h.be.size
  exact ⟨rfl, ⟨F1, F2, D1, D2, t1, c1, stG t2 addr size, c2, by rw [List.append_assoc] at s'; exact s'⟩, h.be.trans hb⟩
/-- One of two. -/
def sel {α : Type} (M : Nat) (x y : α) : α := if M = 0 then x else y
theorem Fst.bxM {w W : World} {a1 a2 kx ky e1 e2 : Nat} {B1 B2 E1 E2 : Nat → UInt8} {xs : List Ob} (h : Fst w W a1 a2 kx ky e1 e2 B1 B2 E1 E2 xs) (M : Nat) (hM : M < 2) : W.cell? ⟨kx, M, none⟩ = some (.pointer (some ⟨sel M a1 a2, 0, none⟩)) ∧ W.cell? ⟨ky, M, none⟩ = some (.pointer (some ⟨sel M e1 e2, 0, none⟩)) := by
  obtain ⟨gx, gy, _, _⟩ := h.bx
  rcases (by omega : M = 0 ∨ M = 1) with rfl | rfl
  · exact ⟨gx.2.1 0, gy.2.1 0⟩
  · exact ⟨gx.2.1 1, gy.2.1 1⟩
theorem Fst.loadFM {w W : World} {a1 a2 kx ky e1 e2 : Nat} {B1 B2 E1 E2 : Nat → UInt8} {xs : List Ob} (h : Fst w W a1 a2 kx ky e1 e2 B1 B2 E1 E2 xs) (M addr size : Nat) (hM : M < 2) (ha : addr < 18446744073709551616) (hs : size < 18446744073709551616) :
    Calls Try.prog 17 #[.pointer (some ⟨sel M a1 a2, 0, none⟩), .int .u64 addr, .int .u64 size] W fun x w' => x = .returned (.tuple #[.int .u64 (ldV (sel M B1 B2) addr size), .int .i64 (ldE addr size)]) ∧ Fst w w' a1 a2 kx ky e1 e2 B1 B2 E1 E2 xs := by
  rcases (by omega : M = 0 ∨ M = 1) with rfl | rfl
  · exact h.loadF1 addr size ha hs
  · exact h.loadF2 addr size ha hs
theorem Fst.loadDM {w W : World} {a1 a2 kx ky e1 e2 : Nat} {B1 B2 E1 E2 : Nat → UInt8} {xs : List Ob} (h : Fst w W a1 a2 kx ky e1 e2 B1 B2 E1 E2 xs) (M addr size : Nat) (hM : M < 2) :
    Calls Try.prog 18 #[.pointer (some ⟨sel M e1 e2, 0, none⟩), .int .u64 addr, .int .u64 size] W fun x w' => x = .returned (.tuple #[.int .u64 (ldV (sel M E1 E2) addr size), .int .i64 (ldE addr size)]) ∧ Fst w w' a1 a2 kx ky e1 e2 B1 B2 E1 E2 xs := by
  rcases (by omega : M = 0 ∨ M = 1) with rfl | rfl
  · exact h.loadD1 addr size
  · exact h.loadD2 addr size
theorem Fst.bytesFM {w W : World} {a1 a2 kx ky e1 e2 : Nat} {B1 B2 E1 E2 : Nat → UInt8} {xs : List Ob} (h : Fst w W a1 a2 kx ky e1 e2 B1 B2 E1 E2 xs) (M : Nat) (hM : M < 2) :
    Calls Try.prog 21 #[.pointer (some ⟨sel M a1 a2, 0, none⟩)] W fun x w' => x = .returned (.string (allB (sel M B1 B2))) ∧ Fst w w' a1 a2 kx ky e1 e2 B1 B2 E1 E2 xs := by
  rcases (by omega : M = 0 ∨ M = 1) with rfl | rfl
  · exact h.bytesF1
  · exact h.bytesF2
theorem Fst.bytesDM {w W : World} {a1 a2 kx ky e1 e2 : Nat} {B1 B2 E1 E2 : Nat → UInt8} {xs : List Ob} (h : Fst w W a1 a2 kx ky e1 e2 B1 B2 E1 E2 xs) (M : Nat) (hM : M < 2) :
    Calls Try.prog 22 #[.pointer (some ⟨sel M e1 e2, 0, none⟩)] W fun x w' => x = .returned (.string (allB (sel M E1 E2))) ∧ Fst w w' a1 a2 kx ky e1 e2 B1 B2 E1 E2 xs := by
  rcases (by omega : M = 0 ∨ M = 1) with rfl | rfl
  · exact h.bytesD1
  · exact h.bytesD2
theorem Fst.storeFM {w W : World} {a1 a2 kx ky e1 e2 : Nat} {B1 B2 E1 E2 : Nat → UInt8} {xs : List Ob} (h : Fst w W a1 a2 kx ky e1 e2 B1 B2 E1 E2 xs) (M addr size n : Nat) (hM : M < 2) (ha : addr < 18446744073709551616) (hs : size < 18446744073709551616) :
    Calls Try.prog 19 #[.pointer (some ⟨sel M a1 a2, 0, none⟩), .int .u64 addr, .int .u64 size, .int .u64 n] W fun x w' => x = .returned (.int .i64 (ldE addr size)) ∧ Fst w w' a1 a2 kx ky e1 e2 (sel M (stB B1 addr size n) B1) (sel M B2 (stB B2 addr size n)) E1 E2 xs := by
  rcases (by omega : M = 0 ∨ M = 1) with rfl | rfl
  · exact h.storeF1 addr size n ha hs
  · exact h.storeF2 addr size n ha hs
theorem Fst.storeDM {w W : World} {a1 a2 kx ky e1 e2 : Nat} {B1 B2 E1 E2 : Nat → UInt8} {xs : List Ob} (h : Fst w W a1 a2 kx ky e1 e2 B1 B2 E1 E2 xs) (M addr size n : Nat) (hM : M < 2) (hn : n < 18446744073709551616) :
    Calls Try.prog 20 #[.pointer (some ⟨sel M e1 e2, 0, none⟩), .int .u64 addr, .int .u64 size, .int .u64 n] W fun x w' => x = .returned (.int .i64 (ldE addr size)) ∧ Fst w w' a1 a2 kx ky e1 e2 B1 B2 (sel M (stB E1 addr size n) E1) (sel M E2 (stB E2 addr size n)) xs := by
  rcases (by omega : M = 0 ∨ M = 1) with rfl | rfl
  · exact h.storeD1 addr size n hn
  · exact h.storeD2 addr size n hn
end T
end Go.Proofs.Ytbmkefpgfifigaa
