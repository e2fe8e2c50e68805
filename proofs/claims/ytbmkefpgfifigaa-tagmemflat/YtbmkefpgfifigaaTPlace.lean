/-
  Stage 6, tagmem: two memories that stay as they are, and a list of tags.
-/
import Derived.Test.YtbmkefpgfifigaaTSame
namespace Go.Proofs.Ytbmkefpgfifigaa
namespace T
open Go.RowKit

structure Pl (W0 W : World) (a f : Nat) (L : List Wr) (v : Value) : Prop where
  ld : Ld W0 W a f L L.length
  tg : UOwn W W0.heap.size v (tagsL (runT (L.take L.length)) 4096)
theorem Pl.gr {W0 W W1 : World} {a f : Nat} {L : List Wr} {v : Value} (h : Pl W0 W a f L v) (hb : Below W.heap.size W W1) : Pl W0 W1 a f L v := ⟨h.ld.gr hb, h.tg.below hb⟩
theorem Pl.loadT {W0 W : World} {a f : Nat} {L : List Wr} {v : Value} (h : Pl W0 W a f L v) (addr size : Nat) (ha : addr < 18446744073709551616) (hs : size < 18446744073709551616) :
    Calls Try.prog 15 #[.pointer (some ⟨a, 0, none⟩), .int .u64 addr, .int .u64 size] W fun x w' => x = .returned (.tuple #[.int .u64 (ldV (runB (L.take L.length)) addr size), .int .i64 (ldE addr size)]) ∧ Pl W0 w' a f L v := by
  obtain ⟨P, q, _⟩ := h.ld.tg
  refine (tgLoad_any P a addr size _ _ W q ha hs).mono ?_
  rintro x w' ⟨rfl, hb⟩
  exact ⟨rfl, h.gr hb⟩
theorem Pl.loadF {W0 W : World} {a f : Nat} {L : List Wr} {v : Value} (h : Pl W0 W a f L v) (addr size : Nat) (ha : addr < 18446744073709551616) (hs : size < 18446744073709551616) :
    Calls Try.prog 17 #[.pointer (some ⟨f, 0, none⟩), .int .u64 addr, .int .u64 size] W fun x w' => x = .returned (.tuple #[.int .u64 (ldV (runB (L.take L.length)) addr size), .int .i64 (ldE addr size)]) ∧ Pl W0 w' a f L v := by
  obtain ⟨P, q, _⟩ := h.ld.fl
  refine (flLoad_any P f addr size _ W q ha hs).mono ?_
  rintro x w' ⟨rfl, hb⟩
  exact ⟨rfl, h.gr hb⟩
theorem Pl.loadCap {W0 W : World} {a f : Nat} {L : List Wr} {v : Value} (h : Pl W0 W a f L v) (addr : Nat) (ha : addr < 18446744073709551616) :
    Calls Try.prog 23 #[.pointer (some ⟨a, 0, none⟩), .int .u64 addr] W fun x w' => x = .returned (.tuple #[(lcV (runB (L.take L.length)) (runT (L.take L.length)) addr).agg, .int .i64 (lcE addr)]) ∧ Pl W0 w' a f L v := by
  obtain ⟨P, q, _⟩ := h.ld.tg
  refine (tgLoadCap_any P a addr _ _ W q ha).mono ?_
  rintro x w' ⟨rfl, hb⟩
  exact ⟨rfl, h.gr hb⟩
theorem Pl.storeT {W0 W : World} {a f : Nat} {L : List Wr} {v : Value} (h : Pl W0 W a f L v) (addr size n : Nat) (ha : addr < 18446744073709551616) (hs : size < 18446744073709551616) (e : wordB addr size = false) :
    Calls Try.prog 14 #[.pointer (some ⟨a, 0, none⟩), .int .u64 addr, .int .u64 size, .int .u64 n] W fun x w' => x = .returned (.int .i64 60) ∧ Pl W0 w' a f L v := by
  obtain ⟨P, q, _⟩ := h.ld.tg
  refine (tgStore_bad P a addr size n _ _ W q ha hs e).mono ?_
  rintro x w' ⟨rfl, hb⟩
  exact ⟨rfl, h.gr hb⟩
theorem Pl.storeF {W0 W : World} {a f : Nat} {L : List Wr} {v : Value} (h : Pl W0 W a f L v) (addr size n : Nat) (ha : addr < 18446744073709551616) (hs : size < 18446744073709551616) (e : wordB addr size = false) :
    Calls Try.prog 19 #[.pointer (some ⟨f, 0, none⟩), .int .u64 addr, .int .u64 size, .int .u64 n] W fun x w' => x = .returned (.int .i64 60) ∧ Pl W0 w' a f L v := by
  obtain ⟨P, q, _⟩ := h.ld.fl
  refine (flStore_bad P f addr size n _ W q ha hs e).mono ?_
  rintro x w' ⟨rfl, hb⟩
  exact ⟨rfl, h.gr hb⟩
theorem Pl.storeCap {W0 W : World} {a f : Nat} {L : List Wr} {v : Value} (h : Pl W0 W a f L v) (addr : Nat) (c : Cp) (ha : addr < 18446744073709551616) (e : granB addr = false) :
    Calls Try.prog 27 #[.pointer (some ⟨a, 0, none⟩), .int .u64 addr, .agg #[.bool true, .int .u64 0, .int .u64 c.b, .int .u64 c.e, .int .u64 c.c, .int .u8 c.p, .int .i64 c.s]] W fun x w' => x = .returned (.int .i64 60) ∧ Pl W0 w' a f L v := by
  obtain ⟨P, q, _⟩ := h.ld.tg
  refine (tgStoreCap_bad P a addr _ _ ⟨true, 0, c⟩ W q ha e).mono ?_
  rintro x w' ⟨rfl, hb⟩
  exact ⟨rfl, h.gr hb⟩
theorem Pl.bytesT {W0 W : World} {a f : Nat} {L : List Wr} {v : Value} (h : Pl W0 W a f L v) :
    Calls Try.prog 12 #[.pointer (some ⟨a, 0, none⟩)] W fun x w' => x = .returned (.string (allB (runB (L.take L.length)))) ∧ Pl W0 w' a f L v := by
  obtain ⟨P, q, _⟩ := h.ld.tg
  refine (tgBytes_all P a _ _ W q).mono ?_
  rintro x w' ⟨rfl, hb⟩
  exact ⟨rfl, h.gr hb⟩
theorem Pl.bytesF {W0 W : World} {a f : Nat} {L : List Wr} {v : Value} (h : Pl W0 W a f L v) :
    Calls Try.prog 21 #[.pointer (some ⟨f, 0, none⟩)] W fun x w' => x = .returned (.string (allB (runB (L.take L.length)))) ∧ Pl W0 w' a f L v := by
  obtain ⟨P, q, _⟩ := h.ld.fl
  refine (flBytes_all P f _ W q).mono ?_
  rintro x w' ⟨rfl, hb⟩
  exact ⟨rfl, h.gr hb⟩
theorem Ld.tags {W0 W : World} {a f : Nat} {L : List Wr} (h : Ld W0 W a f L L.length) :
    Calls Try.prog 25 #[.pointer (some ⟨a, 0, none⟩)] W fun x w' => ∃ v, x = .returned v ∧ Pl W0 w' a f L v := by
  obtain ⟨P, q, _⟩ := h.tg
  refine (tgTags_any P a _ _ W q).mono ?_
  rintro x w' ⟨v, rfl, hO, hb⟩
  have hsz := h.below.size
  refine ⟨v, rfl, h.gr hb, hO.1, ?_⟩
  rcases hO.2 with r | ⟨g, cap, cur, r1, r2, r3⟩
  · exact .inl r
  · exact .inr ⟨g, cap, cur, r1, Nat.le_trans hsz r2, r3⟩
theorem Pl.tags {W0 W : World} {a f : Nat} {L : List Wr} {tv : Value} (h : Pl W0 W a f L tv) :
    Calls Try.prog 25 #[.pointer (some ⟨a, 0, none⟩)] W fun x w' => ∃ v, x = .returned v ∧ Pl W0 w' a f L v ∧ Pl W0 w' a f L tv := by
  obtain ⟨P, q, _⟩ := h.ld.tg
  refine (tgTags_any P a _ _ W q).mono ?_
  rintro x w' ⟨v, rfl, hO, hb⟩
  have hsz := h.ld.below.size
  refine ⟨v, rfl, ⟨h.ld.gr hb, hO.1, ?_⟩, h.gr hb⟩
  rcases hO.2 with r | ⟨g, cap, cur, r1, r2, r3⟩
  · exact .inl r
  · exact .inr ⟨g, cap, cur, r1, Nat.le_trans hsz r2, r3⟩
/-- Both lists of tags, side by side. -/
theorem Pl.same {W0 W : World} {a f : Nat} {L : List Wr} {v v' : Value} (h : Pl W0 W a f L v) (h' : Pl W0 W a f L v') :
    Calls Try.prog 24 #[v', v] W fun x w' => x = .returned (.bool true) ∧ Below W0.heap.size W0 w' := by
  obtain ⟨x1, c1, rfl, u1⟩ := h.tg.uin
  obtain ⟨x2, c2, rfl, u2⟩ := h'.tg.uin
  refine (same_eq _ x2 x1 c2 c1 W u2 u1 (by have := tagsL_len (runT (L.take L.length)) 4096; omega)).mono ?_
  rintro x w' ⟨rfl, hb⟩
  exact ⟨rfl, h.ld.below.trans (hb.mono h.ld.below.size)⟩
end T
end Go.Proofs.Ytbmkefpgfifigaa
