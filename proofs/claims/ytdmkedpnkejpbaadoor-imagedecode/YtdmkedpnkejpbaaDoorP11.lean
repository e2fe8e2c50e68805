import Derived.Test.YtdmkedpnkejpbaaDoorP09
import Derived.Test.YtdmkedpnkejpbaaDoorP10
import Derived.Deep.QuietTactic
import Derived.BigQuiet
import Derived.Laws.BitsAllLaws
import Derived.Maps.AppendAt
/-
  Stage 4, image: the reader's take, number, count, where the bytes are there.
-/
namespace Go.Proofs.YtdmkedpnkejpbaaDoor
open Go.RowKit

/-- The reader at block 'kr'. -/
def RBox (w : World) (kr : Nat) (S : List UInt8) (at_ : Nat) (e p : Int) : Prop := Box w kr #[.string (str S), .int .i64 at_, .int .i64 e, .int .i64 p] 44
theorem grown_of {w w' : World} (h : Below w.heap.size w w') (row : Option Nat) : w.grownBy w' row := ⟨h.os, h.tape, h.output, h.size, fun k hk _ => h.block k hk⟩
theorem grown_set (w : World) (k o : Nat) (v : Value) : w.grownBy (w.setCell ⟨k, o, none⟩ v) (some k) :=
  ⟨rfl, rfl, rfl, by simp, fun i _ hne => Below.heap_setCell _ _ _ _ (fun e => hne (by rw [e]))⟩
theorem Box.kept {w w' : World} {k r : Nat} {cs : Array Value} {t : TypeId} (h : Box w k cs t) (hg : w.grownBy w' (some r)) (hne : k ≠ r) : Box w' k cs t := (hg.block k h.lt (fun e => hne (by simpa using e))).trans h
theorem Box.set {w : World} {k : Nat} {cs : Array Value} {t : TypeId} (h : Box w k cs t) (j : Nat) (v : Value) : Box (w.setCell ⟨k, j, none⟩ v) k (cs.setIfInBounds j v) t := by
  unfold Box at *
  exact heap_setCell_same w k j cs t v h
/-- A piece of a text. -/
def sub (S : List UInt8) (i n : Nat) : List UInt8 := (S.take (i + n)).drop i
theorem sub_length {S : List UInt8} {i n : Nat} (h : i + n ≤ S.length) : (sub S i n).length = n := by
  unfold sub; rw [List.length_drop, List.length_take]; omega
set_option maxRecDepth 10000 in
set_option maxHeartbeats 1000000 in
theorem take_ok (S : List UInt8) (kr at_ n : Nat) (p : Int) (w : World) (h : RBox w kr S at_ 0 p) (hn : at_ + n ≤ S.length) (hS : S.length ≤ 140737488355328) :
    Calls Tryd.prog 55 #[.pointer (some ⟨kr, 0, none⟩), .int .i64 n] w fun x w' => x = .returned (.string (str (sub S at_ n))) ∧ RBox w' kr S (at_ + n) 0 p ∧ w.grownBy w' (some kr) := by
  have ss := str_size S
  have ⟨z0, p0, f0⟩ := h.at
  have d1 : ¬ ((S.length : Int) - at_) < n := by omega
  have d2 : (at_ : Int) ≤ S.length := by omega
  have he := extract_any S at_ (at_ + n)
  have hsub : str ((S.take (at_ + n)).drop at_) = str (sub S at_ n) := rfl
  rw [hsub] at he
  clear hsub
  replace h := Hid.mk h
  go_enter Tryd.func55, Tryd.ntmps55
  go_wp2_with fail
  go_quiet (fail)
  go_upto_region 7 with fail
  refine wp_world (fun W => RBox W kr S (at_ + n) 0 p ∧ w.grownBy W (some kr)) ⟨?_, ?_⟩ ?_
  · have := (h.out.below (w1 := w.drewN nq) ((Gr.refl w).drewN nq).below h.out.lt).set 1 (.int .i64 ((at_ + n : Nat) : Int))
    unfold RBox
    simpa using this
  · exact (grown_of ((Gr.refl w).drewN nq).below _).trans (grown_set _ _ _ _)
  clear z0 p0 f0 h
  rintro W ⟨h, hg⟩
  have ⟨z0, p0, f0⟩ := h.at
  have d3 : (at_ : Int) ≤ at_ + n := by omega
  have d4 : ((at_ : Int) + n) ≤ S.length := by omega
  replace h := Hid.mk h
  replace hg := Hid.mk hg
  go_quiet (fail)
  go_wp2_with fail
  go_ret
  exact ⟨by rw [he]; rfl, h.out.below ((Gr.refl W).drewN _).below h.out.lt, hg.out.trans (grown_of ((Gr.refl W).drewN _).below _)⟩
theorem bytes_of (T : List UInt8) (w : World) : ∃ c W, (convert 9 68 (.string (str T))).run Tryd.prog w = .ok (.slice (some ⟨w.heap.size, 0, none⟩) T.length c) W ∧ Gr w W ∧ ∀ j (h : j < T.length), W.cell? ⟨w.heap.size, j, none⟩ = some (.int .u8 T[j].toNat) := by
  have hr := run_bytes_of_string (P := Tryd.prog) w 9 68 5 (str T) Tryd.underlying9 Tryd.underlying68 Tryd.underlying5
  rw [str_size] at hr
  refine ⟨_, _, hr, (Gr.refl w).drew.alloc _, fun j hj => ?_⟩
  have e := (MapKept.heap_alloc w.drew (.cells (bytesRow (str T) (grownCap w T.length 0 5)) 5 ((bytesRow (str T) (grownCap w T.length 0 5)).size, (bytesRow (str T) (grownCap w T.length 0 5)).size + 1))).1
  have e2 : w.drew.heap.size = w.heap.size := rfl
  rw [e2] at e
  simp only [World.cell?]
  rw [e]
  simp [bytesRow, str, Array.getElem?_append, hj]
/-- A number of bytes, the lowest first. -/
def leN : List UInt8 → Int
  | [] => 0
  | b :: l => b.toNat + 256 * leN l
theorem leN_range (T : List UInt8) : 0 ≤ leN T ∧ leN T < 2 ^ (8 * T.length) := by
  induction T with
  | nil => simp [leN]
  | cons b l ih =>
    have hb := b.toNat_lt
    have e : (2 : Int) ^ (8 * (b :: l).length) = 256 * 2 ^ (8 * l.length) := by
      rw [List.length_cons, Nat.mul_succ, Int.pow_add]; omega
    rw [e, leN]
    omega
theorem leN_snoc (T : List UInt8) (b : UInt8) : leN (T ++ [b]) = leN T + b.toNat * 2 ^ (8 * T.length) := by
  induction T with
  | nil => simp [leN]
  | cons a l ih =>
    have e : (2 : Int) ^ (8 * (a :: l).length) = 256 * 2 ^ (8 * l.length) := by
      rw [List.length_cons, Nat.mul_succ, Int.pow_add]; omega
    rw [List.cons_append, leN, ih, e, leN, Int.mul_add, ← Int.mul_assoc, ← Int.mul_assoc, Int.mul_comm (b.toNat : Int) 256]
    omega
theorem or_shift (x : Int) (b k : Nat) (h0 : 0 ≤ x) (h1 : x < 2 ^ k) (hb : b < 256) (hk : k ≤ 56) : bits .or .u64 x (IntKind.u64.wrap ((b : Int) * 2 ^ k)) = x + b * 2 ^ k := by
  have hp : (2 : Int) ^ k = ((2 ^ k : Nat) : Int) := by simp
  have hpk : 2 ^ k ≤ 2 ^ 56 := Nat.pow_le_pow_right (by omega) hk
  have hm : b * 2 ^ k ≤ 255 * 2 ^ 56 := Nat.mul_le_mul (by omega) hpk
  have hx : x.toNat < 2 ^ k := by rw [hp] at h1; omega
  have ho := or_add x.toNat b k hx
  have e : (b : Int) * 2 ^ k = ((b * 2 ^ k : Nat) : Int) := by simp
  rw [e, IntKind.wrap_u64]
  generalize b * 2 ^ k = q at *
  have hq : (q : Int) % 18446744073709551616 = q := by omega
  rw [hq, u64_or x q h0 (by rw [hp] at h1; omega) (by omega) (by omega), Int.toNat_natCast, ho]
  omega
set_option maxRecDepth 10000 in
set_option maxHeartbeats 1000000 in
theorem number_ok (S : List UInt8) (kr at_ n : Nat) (p : Int) (w : World) (h : RBox w kr S at_ 0 p) (hn : at_ + n ≤ S.length) (hS : S.length ≤ 140737488355328) (h8 : n ≤ 8) :
    Calls Tryd.prog 51 #[.pointer (some ⟨kr, 0, none⟩), .int .i64 n] w fun x w' => x = .returned (.int .u64 (leN (sub S at_ n))) ∧ RBox w' kr S (at_ + n) 0 p ∧ w.grownBy w' (some kr) := by
  have hl := sub_length hn
  go_enter Tryd.func51, Tryd.ntmps51
  go_wp2_with fail
  refine (take_ok S kr at_ n p _ h hn hS).mono ?_
  rintro x w1 ⟨rfl, h1, hg⟩
  generalize hT : sub S at_ n = T at *
  replace hT := Hid.mk hT
  obtain ⟨c, W, hcv, hG, hcs⟩ := bytes_of T w1
  replace h1 := h1.gr hG
  replace hg := hg.trans (grown_of hG.below _)
  replace h1 := Hid.mk h1
  replace hg := Hid.mk hg
  replace hcs := Hid.mk hcs
  clear hG h
  go_wp2_with fail
  go_loopw [5, 13] (fun v i wr => ∃ j : Nat, v = .int .u64 (leN (T.take j)) ∧ i = .int .i64 j ∧ j ≤ T.length ∧ wr = W) (fun _ i _ => T.length - (intOf i).toNat)
  case atStart => exact ⟨0, rfl, rfl, by omega, rfl⟩
  case round =>
    obtain ⟨j, rfl, rfl, hj, rfl⟩ := hrel
    by_cases hlt : j < T.length
    · have jl : (j : Int) < T.length := by omega
      have c0 := hcs.out j hlt
      have hnx := leN_snoc (T.take j) T[j]
      rw [← List.take_succ_eq_append_getElem hlt, List.length_take, Nat.min_eq_left (by omega)] at hnx
      have hrg := leN_range (T.take j)
      rw [List.length_take, Nat.min_eq_left (by omega)] at hrg
      have hb := T[j].toNat_lt
      generalize T[j].toNat = b at *
      generalize leN (T.take j) = x0 at *
      have m1 : IntKind.i64.wrap (8 * (j : Int)) = 8 * j := by rw [IntKind.wrap_i64]; omega
      have m2 : (0 : Int) ≤ 8 * (j : Int) := by omega
      have m3 : (8 * (j : Int)) ≤ 64 := by omega
      have m4 : IntKind.u64.wrap (b : Int) = b := by rw [IntKind.wrap_u64]; omega
      have hor := or_shift x0 b (8 * j) hrg.1 hrg.2 hb (by omega)
      rw [← hnx] at hor
      replace hrg := Hid.mk hrg
      replace hor := Hid.mk hor
      clear hnx
      go_wp2_with fail
      exact ⟨⟨j + 1, by rw [hor.out], by go_num, by omega, trivial⟩, by simp [intOf]; omega⟩
    · have jl : ¬ (j : Int) < T.length := by omega
      rw [List.take_of_length_le (by omega)]
      go_wp2_with fail
      go_ret
      exact ⟨by rw [hT.out]; rfl, h1.out, hg.out⟩
set_option maxHeartbeats 1000000 in
theorem count_ok (S : List UInt8) (kr at_ n : Nat) (p : Int) (w : World) (h : RBox w kr S at_ 0 p) (hn : at_ + n ≤ S.length) (hS : S.length ≤ 140737488355328) (h8 : n ≤ 7) :
    Calls Tryd.prog 27 #[.pointer (some ⟨kr, 0, none⟩), .int .i64 n] w fun x w' => x = .returned (.int .i64 (leN (sub S at_ n))) ∧ RBox w' kr S (at_ + n) 0 p ∧ w.grownBy w' (some kr) := by
  have hr := leN_range (sub S at_ n)
  rw [sub_length hn] at hr
  have hq := number_ok S kr at_ n p w h hn hS (by omega)
  have hp : (2 : Int) ^ (8 * n) ≤ 2 ^ 56 := by
    have h1 := Nat.pow_le_pow_right (n := 2) (by omega) (show 8 * n ≤ 56 by omega)
    have e1 : (2 : Int) ^ (8 * n) = ((2 ^ (8 * n) : Nat) : Int) := by simp
    rw [e1]
    omega
  have hw : IntKind.i64.wrap (leN (sub S at_ n)) = leN (sub S at_ n) := by rw [IntKind.wrap_i64]; omega
  generalize leN (sub S at_ n) = y at *
  clear hp hr
  go_enter Tryd.func27, Tryd.ntmps27
  go_wp2_with fail
  refine hq.mono ?_
  rintro x w1 ⟨rfl, h1, hg⟩
  replace h1 := Hid.mk h1
  replace hg := Hid.mk hg
  go_wp2_with fail
  go_ret
  exact ⟨rfl, h1.out, hg.out⟩
end Go.Proofs.YtdmkedpnkejpbaaDoor


/-
  Stage 4, image: the writer's kind, kinds.
-/
namespace Go.Proofs.YtdmkedpnkejpbaaDoor
open Go.RowKit

def u64 (n : Int) : Int := n % 18446744073709551616
theorem u64_in (n : Int) : W64 (u64 n) := by unfold W64 u64; omega
theorem wrap_u64' (n : Int) : IntKind.u64.wrap n = u64 n := IntKind.wrap_u64 n
theorem u64_self {n : Int} (h : W64 n) : IntKind.u64.wrap n = n := by rw [IntKind.wrap_u64]; unfold W64 at h; omega
theorem b8_w {n : Int} (h : B8 n) : W64 n := by unfold B8 W64 at *; omega
/-- A type's bytes. -/
def typB (t : PTyp) : List UInt8 := if t.cap then putB 1 [1] ++ putB 8 [t.b, t.e, t.lo, t.hi] ++ putB 1 [t.p, u64 t.s] else putB 1 [0]
def typsB : List PTyp → List UInt8
  | [] => []
  | t :: l => typB t ++ typsB l
theorem Box.next (w : World) (o : Obj) (cs : Array Value) (t : TypeId) : Box ((w.alloc o).alloc (.cells cs t)) (w.heap.size + 1) cs t := by
  have := Box.new (w.alloc o) cs t
  rwa [World.size_alloc] at this
set_option maxHeartbeats 2000000 in
theorem kind_any (t : PTyp) (base kw : Nat) (B : List UInt8) (w : World) (h : WBox w base kw B) (ht : t.Rng) (hlen : B.length + (typB t).length ≤ 140737488355328) :
    Calls Tryd.prog 71 #[.pointer (some ⟨kw, 0, none⟩), .agg #[.bool t.cap, .int .u64 t.b, .int .u64 t.e, .int .u64 t.lo, .int .u64 t.hi, .int .u8 t.p, .int .i64 t.s]] w fun x w' => x = .returned (.tuple #[]) ∧ WBox w' base kw (B ++ typB t) ∧ Wrote base w w' := by
  obtain ⟨t1, t2, t3, t4, t5, t6⟩ := ht
  have hbs := h.lt
  have e1 := u64_self (b8_w t5)
  have e2 := wrap_u64' t.s
  have u2 := u64_in t.s
  generalize hs' : u64 t.s = s' at *
  cases hc : t.cap with
  | false =>
    have e : typB t = putB 1 [0] := by simp [typB, hc]
    rw [e] at hlen ⊢
    go_enter Tryd.func71, Tryd.ntmps71
    go_wp2_with fail
    refine (put_any 1 [0] (w.heap.size + 1) 1 base kw B _ (h.below (((Gr.refl w).alloc _).alloc _).below) (Box.next _ _ _ _) (by simp [W64]) (by omega) (by simpa [putB_length] using hlen) (by simp)).mono ?_
    rintro x w1 ⟨rfl, hW, hWr⟩
    replace hWr := (Wrote.gr (((Gr.refl w).alloc _).alloc _) hbs).trans hWr
    go_wp2_with fail
    simp [bodyPost, results, Tryd.results71, go_sem]
    exact ⟨hW, hWr⟩
  | true =>
    have e : typB t = putB 1 [1] ++ putB 8 [t.b, t.e, t.lo, t.hi] ++ putB 1 [t.p, s'] := by simp [typB, hc, hs']
    rw [e] at hlen ⊢
    simp only [List.length_append, putB_length, List.length_cons, List.length_nil] at hlen
    go_enter Tryd.func71, Tryd.ntmps71
    go_wp2_with fail
    refine (put_any 1 [1] (w.heap.size + 1) 1 base kw B _ (h.below (((Gr.refl w).alloc _).alloc _).below) (Box.next _ _ _ _) (by simp [W64]) (by omega) (by simp; omega) (by simp)).mono ?_
    rintro x w1 ⟨rfl, hW, hWr⟩
    have X1 := hWr.keep _ _ _ (by decide) (by decide) ((Box.new w #[.bool true, .int .u64 t.b, .int .u64 t.e, .int .u64 t.lo, .int .u64 t.hi, .int .u8 t.p, .int .i64 t.s] 88).alloc _)
    replace hWr := (Wrote.gr (((Gr.refl w).alloc _).alloc _) hbs).trans hWr
    have hs1 := hWr.size
    have ⟨z1, p1, _⟩ := X1.at
    replace X1 := Hid.mk X1
    go_wp2_with fail
    refine (put_any 8 [t.b, t.e, t.lo, t.hi] w1.heap.size 4 base kw _ _ (hW.below ((Gr.refl w1).alloc _).below) (Box.new _ _ _) (by simp; exact ⟨t1, t2, t3, t4⟩) (by omega) (by simp [putB_length]; omega) (by simp)).mono ?_
    rintro x w2 ⟨rfl, hW2, hWr2⟩
    clear z1 p1
    replace X1 := Hid.mk (hWr2.keep _ _ _ (by decide) (by decide) (X1.out.alloc _))
    replace hWr := hWr.trans ((Wrote.gr ((Gr.refl w1).alloc _) (by omega)).trans hWr2)
    have hs2 := hWr.size
    clear hWr2 hW
    have ⟨z1, p1, _⟩ := X1.out.at
    go_wp2_with fail
    refine (put_any 1 [t.p, s'] w2.heap.size 2 base kw _ _ (hW2.below ((Gr.refl w2).alloc _).below) (Box.new _ _ _) (by simp; exact ⟨b8_w t5, u2⟩) (by omega) (by simp [putB_length]; omega) (by simp)).mono ?_
    rintro x w3 ⟨rfl, hW3, hWr3⟩
    replace hWr := hWr.trans ((Wrote.gr ((Gr.refl w2).alloc _) (by omega)).trans hWr3)
    clear z1 p1 hWr3 hW2
    go_wp2_with fail
    simp only [List.append_assoc] at hW3 ⊢
    simp [bodyPost, results, Tryd.results71, go_sem]
    exact ⟨hW3, hWr⟩
end Go.Proofs.YtdmkedpnkejpbaaDoor
