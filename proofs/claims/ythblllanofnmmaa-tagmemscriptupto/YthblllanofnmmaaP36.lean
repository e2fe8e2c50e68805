import Derived.Test.YthblllanofnmmaaP35
/-
  Stage 6, tagmem: two memories that stay as they are, and a list of tags.
-/
namespace Go.Proofs.Ythblllanofnmmaa
namespace T
open Go.RowKit

structure Pl (W0 W : World) (a f : Nat) (L : List Wr) (v : Value) : Prop where
  ld : Ld W0 W a f L L.length
  tg : UOwn W W0.heap.size v (tagsL (runT (L.take L.length)) 4096)
theorem Pl.gr {W0 W W1 : World} {a f : Nat} {L : List Wr} {v : Value} (h : Pl W0 W a f L v) (hb : Below W.heap.size W W1) : Pl W0 W1 a f L v := ⟨h.ld.gr hb, h.tg.below hb⟩
theorem Pl.loadT {W0 W : World} {a f : Nat} {L : List Wr} {v : Value} (h : Pl W0 W a f L v) (addr size : Nat) (ha : addr < 18446744073709551616) (hs : size < 18446744073709551616) :
    Calls Try.prog 13 #[.pointer (some ⟨a, 0, none⟩), .int .u64 addr, .int .u64 size] W fun x w' => x = .returned (.tuple #[.int .u64 (ldV (runB (L.take L.length)) addr size), .int .i64 (ldE addr size)]) ∧ Pl W0 w' a f L v := by
  obtain ⟨P, q, _⟩ := h.ld.tg
  refine (tgLoad_any P a addr size _ _ W q ha hs).mono ?_
  rintro x w' ⟨rfl, hb⟩
  exact ⟨rfl, h.gr hb⟩
theorem Pl.loadCap {W0 W : World} {a f : Nat} {L : List Wr} {v : Value} (h : Pl W0 W a f L v) (addr : Nat) (ha : addr < 18446744073709551616) :
    Calls Try.prog 21 #[.pointer (some ⟨a, 0, none⟩), .int .u64 addr] W fun x w' => x = .returned (.tuple #[(lcV (runB (L.take L.length)) (runT (L.take L.length)) addr).agg, .int .i64 (lcE addr)]) ∧ Pl W0 w' a f L v := by
  obtain ⟨P, q, _⟩ := h.ld.tg
  refine (tgLoadCap_any P a addr _ _ W q ha).mono ?_
  rintro x w' ⟨rfl, hb⟩
  exact ⟨rfl, h.gr hb⟩
theorem Pl.storeT {W0 W : World} {a f : Nat} {L : List Wr} {v : Value} (h : Pl W0 W a f L v) (addr size n : Nat) (ha : addr < 18446744073709551616) (hs : size < 18446744073709551616) (e : wordB addr size = false) :
    Calls Try.prog 20 #[.pointer (some ⟨a, 0, none⟩), .int .u64 addr, .int .u64 size, .int .u64 n] W fun x w' => x = .returned (.int .i64 60) ∧ Pl W0 w' a f L v := by
  obtain ⟨P, q, _⟩ := h.ld.tg
  refine (tgStore_bad P a addr size n _ _ W q ha hs e).mono ?_
  rintro x w' ⟨rfl, hb⟩
  exact ⟨rfl, h.gr hb⟩
theorem Pl.storeCap {W0 W : World} {a f : Nat} {L : List Wr} {v : Value} (h : Pl W0 W a f L v) (addr : Nat) (c : Cp) (ha : addr < 18446744073709551616) (e : granB addr = false) :
    Calls Try.prog 12 #[.pointer (some ⟨a, 0, none⟩), .int .u64 addr, .agg #[.bool true, .int .u64 0, .int .u64 c.b, .int .u64 c.e, .int .u64 c.c, .int .u8 c.p, .int .i64 c.s]] W fun x w' => x = .returned (.int .i64 60) ∧ Pl W0 w' a f L v := by
  obtain ⟨P, q, _⟩ := h.ld.tg
  refine (tgStoreCap_bad P a addr _ _ ⟨true, 0, c⟩ W q ha e).mono ?_
  rintro x w' ⟨rfl, hb⟩
  exact ⟨rfl, h.gr hb⟩
theorem Pl.bytesT {W0 W : World} {a f : Nat} {L : List Wr} {v : Value} (h : Pl W0 W a f L v) :
    Calls Try.prog 27 #[.pointer (some ⟨a, 0, none⟩)] W fun x w' => x = .returned (.string (allB (runB (L.take L.length)))) ∧ Pl W0 w' a f L v := by
  obtain ⟨P, q, _⟩ := h.ld.tg
  refine (tgBytes_all P a _ _ W q).mono ?_
  rintro x w' ⟨rfl, hb⟩
  exact ⟨rfl, h.gr hb⟩
theorem Ld.tags {W0 W : World} {a f : Nat} {L : List Wr} (h : Ld W0 W a f L L.length) :
    Calls Try.prog 23 #[.pointer (some ⟨a, 0, none⟩)] W fun x w' => ∃ v, x = .returned v ∧ Pl W0 w' a f L v := by
  obtain ⟨P, q, _⟩ := h.tg
  refine (tgTags_any P a _ _ W q).mono ?_
  rintro x w' ⟨v, rfl, hO, hb⟩
  have hsz := h.below.size
  refine ⟨v, rfl, h.gr hb, hO.1, ?_⟩
  rcases hO.2 with r | ⟨g, cap, cur, r1, r2, r3⟩
  · exact .inl r
  · exact .inr ⟨g, cap, cur, r1, Nat.le_trans hsz r2, r3⟩
theorem Pl.tags {W0 W : World} {a f : Nat} {L : List Wr} {tv : Value} (h : Pl W0 W a f L tv) :
    Calls Try.prog 23 #[.pointer (some ⟨a, 0, none⟩)] W fun x w' => ∃ v, x = .returned v ∧ Pl W0 w' a f L v ∧ Pl W0 w' a f L tv := by
  obtain ⟨P, q, _⟩ := h.ld.tg
  refine (tgTags_any P a _ _ W q).mono ?_
  rintro x w' ⟨v, rfl, hO, hb⟩
  have hsz := h.ld.below.size
  refine ⟨v, rfl, ⟨h.ld.gr hb, hO.1, ?_⟩, h.gr hb⟩
  rcases hO.2 with r | ⟨g, cap, cur, r1, r2, r3⟩
  · exact .inl r
  · exact .inr ⟨g, cap, cur, r1, Nat.le_trans hsz r2, r3⟩
/-- Both lists of tags, side by side. -/
theorem Pl.same {W0 W : World} {a f : Nat} {L : List Wr} {v v' : Value} (h : Pl W0 W a f L v) (h' : Pl W0 W a f L v') :
    Calls Try.prog 24 #[v', v] W fun x w' => x = .returned (.bool true) ∧ Below W0.heap.size W0 w' := by
  obtain ⟨x1, c1, rfl, u1⟩ := h.tg.uin
  obtain ⟨x2, c2, rfl, u2⟩ := h'.tg.uin
  refine (same_eq _ x2 x1 c2 c1 W u2 u1 (by have := tagsL_len (runT (L.take L.length)) 4096; omega)).mono ?_
  rintro x w' ⟨rfl, hb⟩
  exact ⟨rfl, h.ld.below.trans (hb.mono h.ld.below.size)⟩
end T
end Go.Proofs.Ythblllanofnmmaa


/-
  Stage 6, tagmem: what is known of each granule, plain; rows of truth values and of capabilities.
-/
namespace Go.Proofs.Ythblllanofnmmaa
namespace T
open Go.RowKit

def Wr.ad (x : Wr) : Nat := if x.kind = 1 then x.low else x.at
def tbG (tg : Nat → Bool) (x : Wr) : Nat → Bool := fun g => if x.kind = 1 ∧ g = (x.ad + 7) / 16 then false else if g = x.ad / 16 then decide (x.kind = 2) else tg g
def tbC (cp : Nat → Cp) (x : Wr) : Nat → Cp := fun g => if g = x.ad / 16 then x.c else cp g
def Rel (t : Nat → Option Cp) (tg : Nat → Bool) (cp : Nat → Cp) : Prop := ∀ g, t g = if tg g then some (cp g) else none
theorem Wr.at_lt (x : Wr) : x.at < 65536 := pk_lt x.a 65536 (by omega)
theorem Wr.kind_lt (x : Wr) : x.kind < 4 := pk_lt x.k 4 (by omega)
theorem Wr.ad_lt (x : Wr) : x.ad < 65536 := by
  have := x.at_lt
  unfold Wr.ad Wr.low
  split
  · split <;> omega
  · exact this
theorem rel_step {t : Nat → Option Cp} {tg : Nat → Bool} {cp : Nat → Cp} (h : Rel t tg cp) (x : Wr) : Rel (wrT t x) (tbG tg x) (tbC cp x) := by
  intro g
  have ha := x.at_lt
  have hk := x.kind_lt
  have hg := h g
  rcases (by omega : x.kind = 0 ∨ x.kind = 1 ∨ x.kind = 2 ∨ x.kind = 3) with e | e | e | e
  · have e1 : wrT t x = offT t x.at (x.at + 1) := by unfold wrT stT; rw [if_pos e, word1 ha]; rfl
    have e2 : x.ad = x.at := by unfold Wr.ad; rw [if_neg (by omega)]
    rw [e1]
    unfold offT tbG tbC
    rw [e2, e]
    by_cases q : g = x.at / 16
    · rw [if_pos ⟨by omega, by omega, by omega⟩, if_pos q]; simp
    · rw [if_neg (by omega), if_neg q, if_neg q]; simpa using hg
  · have hl : x.low ≤ 65528 := by unfold Wr.low; split <;> omega
    have e1 : wrT t x = offT t x.low (x.low + 8) := by unfold wrT stT; rw [if_neg (by omega), if_pos e, word8 hl]; rfl
    have e2 : x.ad = x.low := by unfold Wr.ad; rw [if_pos e]
    rw [e1]
    unfold offT tbG tbC
    rw [e2, e]
    by_cases q1 : g = (x.low + 7) / 16
    · rw [if_pos ⟨by omega, by omega, by omega⟩]; simp [q1]
    · by_cases q : g = x.low / 16
      · rw [if_pos ⟨by omega, by omega, by omega⟩]; simp [q]
      · rw [if_neg (by omega)]; simp [q1, q]; simpa using hg
  · have hgr := gran ha
    have e1 : wrT t x = updT (offT t x.place (x.place + 16)) (x.place / 16) (some x.c) := by
      unfold wrT scT Wr.val
      rw [if_neg (by omega), if_neg (by omega), if_pos e]
      show (if granB (x.at / 16 * 16) = true then _ else _) = _
      rw [hgr]; rfl
    have e2 : x.ad = x.at := by unfold Wr.ad; rw [if_neg (by omega)]
    have e3 : x.place = x.at / 16 * 16 := rfl
    rw [e1]
    unfold updT offT tbG tbC
    rw [e2, e, e3]
    by_cases q : g = x.at / 16
    · rw [if_pos (by omega)]; simp [q]
    · rw [if_neg (by omega), if_neg (by omega)]; simp [q]; simpa using hg
  · have hgr := gran ha
    have e1 : wrT t x = offT t x.place (x.place + 16) := by
      have ev : x.val = ⟨false, x.n, Cp.zero⟩ := by unfold Wr.val; rw [if_neg (by omega)]
      unfold wrT
      rw [if_neg (by omega), if_neg (by omega), ev]
      unfold scT
      show (if granB (x.at / 16 * 16) = true then _ else _) = _
      rw [hgr]; rfl
    have e2 : x.ad = x.at := by unfold Wr.ad; rw [if_neg (by omega)]
    have e3 : x.place = x.at / 16 * 16 := rfl
    rw [e1]
    unfold offT tbG tbC
    rw [e2, e, e3]
    by_cases q : g = x.at / 16
    · rw [if_pos ⟨by omega, by omega, by omega⟩]; simp [q]
    · rw [if_neg (by omega)]; simp [q]; simpa using hg
/-- A granule with a tag has the capability's cursor as its bytes. -/
def Curs (b : Nat → UInt8) (t : Nat → Option Cp) : Prop := ∀ g c, t g = some c → leB b (g * 16) 8 = c.c.toNat
theorem curs_step {b : Nat → UInt8} {t : Nat → Option Cp} (h : Curs b t) (x : Wr) (hx : x.Ok) : Curs (wrB b x) (wrT t x) := by
  intro g c hc
  have ha := x.at_lt
  have hk := x.kind_lt
  rcases (by omega : x.kind = 0 ∨ x.kind = 1 ∨ x.kind = 2 ∨ x.kind = 3) with e | e | e | e
  · have e1 : wrT t x = offT t x.at (x.at + 1) := by unfold wrT stT; rw [if_pos e, word1 ha]; rfl
    have e2 : wrB b x = putB b x.at x.n 1 := by unfold wrB stB; rw [if_pos e, word1 ha]; rfl
    rw [e1] at hc
    unfold offT at hc
    split at hc
    · simp at hc
    · rename_i q
      rw [e2, ← h g c hc]
      exact leB_ext _ _ _ _ (fun y h1 h2 => putB_other _ _ _ _ _ (by omega))
  · have hl : x.low ≤ 65528 := by unfold Wr.low; split <;> omega
    have e1 : wrT t x = offT t x.low (x.low + 8) := by unfold wrT stT; rw [if_neg (by omega), if_pos e, word8 hl]; rfl
    have e2 : wrB b x = putB b x.low x.n 8 := by unfold wrB stB; rw [if_neg (by omega), if_pos e, word8 hl]; rfl
    rw [e1] at hc
    unfold offT at hc
    split at hc
    · simp at hc
    · rename_i q
      rw [e2, ← h g c hc]
      exact leB_ext _ _ _ _ (fun y h1 h2 => putB_other _ _ _ _ _ (by omega))
  · have hgr := gran ha
    have e3 : x.place = x.at / 16 * 16 := rfl
    have e1 : wrT t x = updT (offT t x.place (x.place + 16)) (x.place / 16) (some x.c) := by
      unfold wrT scT Wr.val
      rw [if_neg (by omega), if_neg (by omega), if_pos e]
      show (if granB (x.at / 16 * 16) = true then _ else _) = _
      rw [hgr]; rfl
    have e2 : wrB b x = putB (putB b x.place x.c.c.toNat 8) (x.place + 8) 0 8 := by
      unfold wrB scB Wr.val
      rw [if_neg (by omega), if_neg (by omega), if_pos e]
      show (if granB (x.at / 16 * 16) = true then _ else _) = _
      rw [hgr]; rfl
    rw [e1] at hc
    rw [e2]
    unfold updT offT at hc
    split at hc
    · rename_i q
      simp at hc
      subst hc
      have hg : g * 16 = x.place := by omega
      rw [hg, leB_ext _ (putB b x.place x.c.c.toNat 8) _ _ (fun y h1 h2 => putB_other _ _ _ _ _ (by omega)), leB_putB, Nat.mod_eq_of_lt]
      have := hx.rc.rc
      unfold U64 at this
      omega
    · split at hc
      · simp at hc
      · rename_i q1 q2
        rw [← h g c hc]
        exact leB_ext _ _ _ _ (fun y h1 h2 => by rw [putB_other _ _ _ _ _ (by omega), putB_other _ _ _ _ _ (by omega)])
  · have hgr := gran ha
    have e3 : x.place = x.at / 16 * 16 := rfl
    have e1 : wrT t x = offT t x.place (x.place + 16) := by
      have ev : x.val = ⟨false, x.n, Cp.zero⟩ := by unfold Wr.val; rw [if_neg (by omega)]
      unfold wrT
      rw [if_neg (by omega), if_neg (by omega), ev]
      unfold scT
      show (if granB (x.at / 16 * 16) = true then _ else _) = _
      rw [hgr]; rfl
    have e2 : wrB b x = putB (putB b x.place x.n 8) (x.place + 8) 0 8 := by
      have ev : x.val = ⟨false, x.n, Cp.zero⟩ := by unfold Wr.val; rw [if_neg (by omega)]
      unfold wrB
      rw [if_neg (by omega), if_neg (by omega), ev]
      unfold scB
      show (if granB (x.at / 16 * 16) = true then _ else _) = _
      rw [hgr]; rfl
    rw [e1] at hc
    rw [e2]
    unfold offT at hc
    split at hc
    · simp at hc
    · rename_i q
      rw [← h g c hc]
      exact leB_ext _ _ _ _ (fun y h1 h2 => by rw [putB_other _ _ _ _ _ (by omega), putB_other _ _ _ _ _ (by omega)])
theorem curs_run (L : List Wr) (h : ∀ x ∈ L, x.Ok) : Curs (runB L) (runT L) := by
  unfold runB runT
  suffices H : ∀ (M : List Wr) b t, (∀ x ∈ M, x.Ok) → Curs b t → Curs (M.foldl wrB b) (M.foldl wrT t) from H L _ _ h (fun g c q => by simp at q)
  intro M
  induction M with
  | nil => intro b t _ h; exact h
  | cons x M ih => intro b t h1 h2; exact ih _ _ (fun y hy => h1 y (by simp [hy])) (curs_step h2 x (h1 x (by simp)))
def runG (L : List Wr) : Nat → Bool := L.foldl tbG fun _ => false
def runC (L : List Wr) : Nat → Cp := L.foldl tbC fun _ => Cp.zero
theorem rel_run (L : List Wr) : Rel (runT L) (runG L) (runC L) := by
  unfold runT runG runC
  suffices H : ∀ (M : List Wr) t g c, Rel t g c → Rel (M.foldl wrT t) (M.foldl tbG g) (M.foldl tbC c) from H L _ _ _ (fun g => by simp)
  intro M
  induction M with
  | nil => intro t g c h; exact h
  | cons x M ih => intro t g c h; exact ih _ _ _ (rel_step h x)
theorem runG_snoc (L : List Wr) (i : Nat) (h : i < L.length) : tbG (runG (L.take i)) L[i] = runG (L.take (i + 1)) := by
  rw [List.take_succ_eq_append_getElem h]; unfold runG; rw [List.foldl_append]; rfl
theorem runC_snoc (L : List Wr) (i : Nat) (h : i < L.length) : tbC (runC (L.take i)) L[i] = runC (L.take (i + 1)) := by
  rw [List.take_succ_eq_append_getElem h]; unfold runC; rw [List.foldl_append]; rfl
end T
end Go.Proofs.Ythblllanofnmmaa
