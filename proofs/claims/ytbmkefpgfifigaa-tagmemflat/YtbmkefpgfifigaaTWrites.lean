/-
  Stage 6, tagmem: the statements' writes.
-/
import Derived.Test.YtbmkefpgfifigaaTTwo
namespace Go.Proofs.Ytbmkefpgfifigaa
namespace T
open Go.RowKit

/-- Something that is written. -/
structure Wr where
  a : Int
  k : Int
  n : Nat
  c : Cp
structure Cp.Ok (c : Cp) : Prop where
  rb : U64 c.b
  re : U64 c.e
  rc : U64 c.c
  rp : 0 ≤ c.p ∧ c.p < 256
  rs : I64 c.s
structure Wr.Ok (x : Wr) : Prop where
  ra : I64 x.a
  rk : I64 x.k
  rn : x.n < 18446744073709551616
  rc : x.c.Ok
def Wr.cells (x : Wr) : Array Value := #[.int .i64 x.a, .int .i64 x.k, .int .u64 x.n, .int .u64 x.c.b, .int .u64 x.c.e, .int .u64 x.c.c, .int .u8 x.c.p, .int .i64 x.c.s]
def Wr.at (x : Wr) : Nat := pk x.a 65536
def Wr.kind (x : Wr) : Nat := pk x.k 4
def Wr.place (x : Wr) : Nat := x.at / 16 * 16
def Wr.low (x : Wr) : Nat := if x.at ≤ 65528 then x.at else 65528
def Wr.val (x : Wr) : Vl := if x.kind = 2 then ⟨true, 0, x.c⟩ else ⟨false, x.n, Cp.zero⟩
/-- The bytes, when it is written. -/
def wrB (b : Nat → UInt8) (x : Wr) : Nat → UInt8 :=
  if x.kind = 0 then stB b x.at 1 x.n else if x.kind = 1 then stB b x.low 8 x.n else scB b x.place x.val
def wrT (t : Nat → Option Cp) (x : Wr) : Nat → Option Cp :=
  if x.kind = 0 then stT t x.at 1 else if x.kind = 1 then stT t x.low 8 else scT t x.place x.val
theorem word1 {a : Nat} (h : a < 65536) : wordB a 1 = true := by simp [wordB]; omega
theorem word8 {a : Nat} (h : a ≤ 65528) : wordB a 8 = true := by simp [wordB]; omega
theorem gran {a : Nat} (h : a < 65536) : granB (a / 16 * 16) = true := by simp [granB]; omega
theorem scB_two (b : Nat → UInt8) (p : Nat) (v : Vl) (hp : p ≤ 65520) (hg : granB p = true) : stB (stB b p 8 v.num) (p + 8) 8 0 = scB b p v := by
  unfold stB scB
  rw [word8 (by omega), word8 (by omega), hg]
  rfl
set_option maxHeartbeats 4000000 in
theorem writes_any (S : Nat → Prop) (a f : Nat) (b : Nat → UInt8) (t : Nat → Option Cp) (x : Wr) (w : World) (h : Two S w a f b b t) (hx : x.Ok) :
    Calls Try.prog 11 #[.pointer (some ⟨a, 0, none⟩), .pointer (some ⟨f, 0, none⟩), .agg x.cells] w fun r w' => r = .returned (.bool true) ∧ ∃ S', Two S' w' a f (wrB b x) (wrB b x) (wrT t x) ∧ Mf S S' w w' := by
  have hp1 : ∀ W, Calls Try.prog 13 #[.int .i64 x.a, .int .i64 65536] W fun y w' => y = .returned (.int .i64 (pk x.a 65536)) ∧ w' = W := fun W => pick_any x.a 65536 W hx.ra (by omega) (by omega)
  have hp2 : ∀ W, Calls Try.prog 13 #[.int .i64 x.k, .int .i64 4] W fun y w' => y = .returned (.int .i64 (pk x.k 4)) ∧ w' = W := fun W => pick_any x.k 4 W hx.rk (by omega) (by omega)
  have hl1 := pk_lt x.a 65536 (by omega)
  have hl2 := pk_lt x.k 4 (by omega)
  have h0 := fun o => h.gr ((Below.refl _ w).alloc (Nat.le_refl _) o)
  have nS : ¬ S w.heap.size := fun q => by have := h.lt _ q; omega
  have hA := At.new w x.cells 28
  replace nS := Hid.mk nS
  replace h0 := Hid.mk h0
  have e1 : x.at = pk x.a 65536 := rfl
  have e2 : x.kind = pk x.k 4 := rfl
  rw [← e1] at hp1 hl1
  rw [← e2] at hp2 hl2
  rcases (by omega : x.kind = 0 ∨ x.kind = 1 ∨ x.kind = 2 ∨ x.kind = 3) with hk | hk | hk | hk
  · have r1 : wrB b x = stB b x.at 1 x.n := by unfold wrB; rw [if_pos hk]
    have r2 : wrT t x = stT t x.at 1 := by unfold wrT; rw [if_pos hk]
    have hE : ldE x.at 1 = 0 := by unfold ldE; rw [word1 hl1]; rfl
    have hS := fun S1 W (q : Two S1 W a f b b t) => q.onT fun P hP => tgStore_any P a x.at 1 x.n b t W hP (by omega) (by omega)
    have hF := fun S1 W (q : Two S1 W a f (stB b x.at 1 x.n) b (stT t x.at 1)) => q.onF fun P hP => flStore_any P f x.at 1 x.n b W hP (by omega) (by omega)
    rw [hE] at hS hF
    rw [r1, r2]
    generalize stB b x.at 1 x.n = b1 at *
    generalize stT t x.at 1 = t1 at *
    clear r1 r2 hE e1 e2
    rw [hk] at hp2
    replace hS := Hid.mk hS
    replace hF := Hid.mk hF
    replace h := Hid.mk h
    replace hA := Hid.mk hA
    unfold Wr.cells at *
    go_enter Try.func11, Try.ntmps11
    go_wp2_with fail
    refine (hp1 _).mono ?_
    rintro y w1 ⟨rfl, rfl⟩
    go_wp2_with fail
    refine (hp2 _).mono ?_
    rintro y w1 ⟨rfl, rfl⟩
    clear hp1 hp2
    go_wp2_with fail
    refine (hS.out _ _ (h0.out _)).mono ?_
    rintro y w1 ⟨rfl, S1, h1, f1⟩
    have A1 := at_kp hA.out f1.kp nS.out
    have y1_0 : w1.cell? ⟨w.heap.size, 0, none⟩ = some (.int .i64 x.a) := A1.2.1 0
    have y1_1 : w1.cell? ⟨w.heap.size, 1, none⟩ = some (.int .i64 x.k) := A1.2.1 1
    have y1_2 : w1.cell? ⟨w.heap.size, 2, none⟩ = some (.int .u64 x.n) := A1.2.1 2
    have y1_3 : w1.cell? ⟨w.heap.size, 3, none⟩ = some (.int .u64 x.c.b) := A1.2.1 3
    have y1_4 : w1.cell? ⟨w.heap.size, 4, none⟩ = some (.int .u64 x.c.e) := A1.2.1 4
    have y1_5 : w1.cell? ⟨w.heap.size, 5, none⟩ = some (.int .u64 x.c.c) := A1.2.1 5
    have y1_6 : w1.cell? ⟨w.heap.size, 6, none⟩ = some (.int .u8 x.c.p) := A1.2.1 6
    have y1_7 : w1.cell? ⟨w.heap.size, 7, none⟩ = some (.int .i64 x.c.s) := A1.2.1 7
    replace A1 := Hid.mk A1
    replace f1 := Hid.mk f1
    replace h1 := Hid.mk h1
    go_wp2_with fail
    refine (hF.out _ _ h1.out).mono ?_
    rintro y w2 ⟨rfl, S2, h2, f2⟩
    replace f2 := f1.out.trans f2
    have A2 := at_kp hA.out f2.kp nS.out
    have y2_0 : w2.cell? ⟨w.heap.size, 0, none⟩ = some (.int .i64 x.a) := A2.2.1 0
    have y2_1 : w2.cell? ⟨w.heap.size, 1, none⟩ = some (.int .i64 x.k) := A2.2.1 1
    have y2_2 : w2.cell? ⟨w.heap.size, 2, none⟩ = some (.int .u64 x.n) := A2.2.1 2
    have y2_3 : w2.cell? ⟨w.heap.size, 3, none⟩ = some (.int .u64 x.c.b) := A2.2.1 3
    have y2_4 : w2.cell? ⟨w.heap.size, 4, none⟩ = some (.int .u64 x.c.e) := A2.2.1 4
    have y2_5 : w2.cell? ⟨w.heap.size, 5, none⟩ = some (.int .u64 x.c.c) := A2.2.1 5
    have y2_6 : w2.cell? ⟨w.heap.size, 6, none⟩ = some (.int .u8 x.c.p) := A2.2.1 6
    have y2_7 : w2.cell? ⟨w.heap.size, 7, none⟩ = some (.int .i64 x.c.s) := A2.2.1 7
    replace A2 := Hid.mk A2
    replace f2 := Hid.mk f2
    replace h2 := Hid.mk h2
    clear f1 h1 A1 y1_0 y1_1 y1_2 y1_3 y1_4 y1_5 y1_6 y1_7
    go_wp2_with fail
    go_ret
    exact ⟨rfl, S2, h2.out, (Mf.below ((Below.refl _ w).alloc (Nat.le_refl _) _)).trans f2.out⟩
  · by_cases hlow : x.at ≤ 65528
    · have r1 : wrB b x = stB b x.at 8 x.n := by unfold wrB Wr.low; rw [if_neg (by omega), if_pos hk, if_pos hlow]
      have r2 : wrT t x = stT t x.at 8 := by unfold wrT Wr.low; rw [if_neg (by omega), if_pos hk, if_pos hlow]
      have hE : ldE x.at 8 = 0 := by unfold ldE; rw [word8 (by omega)]; rfl
      have hS := fun S1 W (q : Two S1 W a f b b t) => q.onT fun P hP => tgStore_any P a x.at 8 x.n b t W hP (by omega) (by omega)
      have hF := fun S1 W (q : Two S1 W a f (stB b x.at 8 x.n) b (stT t x.at 8)) => q.onF fun P hP => flStore_any P f x.at 8 x.n b W hP (by omega) (by omega)
      rw [hE] at hS hF
      rw [r1, r2]
      generalize stB b x.at 8 x.n = b1 at *
      generalize stT t x.at 8 = t1 at *
      clear r1 r2 hE e1 e2
      have d1 : ¬ (65528 : Int) < x.at := by omega
      rw [hk] at hp2
      replace hS := Hid.mk hS
      replace hF := Hid.mk hF
      replace h := Hid.mk h
      replace hA := Hid.mk hA
      unfold Wr.cells at *
      go_enter Try.func11, Try.ntmps11
      go_wp2_with fail
      refine (hp1 _).mono ?_
      rintro y w1 ⟨rfl, rfl⟩
      go_wp2_with fail
      refine (hp2 _).mono ?_
      rintro y w1 ⟨rfl, rfl⟩
      clear hp1 hp2
      go_wp2_with fail
      refine (hS.out _ _ (h0.out _)).mono ?_
      rintro y w1 ⟨rfl, S1, h1, f1⟩
      have A1 := at_kp hA.out f1.kp nS.out
      have y1_0 : w1.cell? ⟨w.heap.size, 0, none⟩ = some (.int .i64 x.a) := A1.2.1 0
      have y1_1 : w1.cell? ⟨w.heap.size, 1, none⟩ = some (.int .i64 x.k) := A1.2.1 1
      have y1_2 : w1.cell? ⟨w.heap.size, 2, none⟩ = some (.int .u64 x.n) := A1.2.1 2
      have y1_3 : w1.cell? ⟨w.heap.size, 3, none⟩ = some (.int .u64 x.c.b) := A1.2.1 3
      have y1_4 : w1.cell? ⟨w.heap.size, 4, none⟩ = some (.int .u64 x.c.e) := A1.2.1 4
      have y1_5 : w1.cell? ⟨w.heap.size, 5, none⟩ = some (.int .u64 x.c.c) := A1.2.1 5
      have y1_6 : w1.cell? ⟨w.heap.size, 6, none⟩ = some (.int .u8 x.c.p) := A1.2.1 6
      have y1_7 : w1.cell? ⟨w.heap.size, 7, none⟩ = some (.int .i64 x.c.s) := A1.2.1 7
      replace A1 := Hid.mk A1
      replace f1 := Hid.mk f1
      replace h1 := Hid.mk h1
      go_wp2_with fail
      refine (hF.out _ _ h1.out).mono ?_
      rintro y w2 ⟨rfl, S2, h2, f2⟩
      replace f2 := f1.out.trans f2
      have A2 := at_kp hA.out f2.kp nS.out
      have y2_0 : w2.cell? ⟨w.heap.size, 0, none⟩ = some (.int .i64 x.a) := A2.2.1 0
      have y2_1 : w2.cell? ⟨w.heap.size, 1, none⟩ = some (.int .i64 x.k) := A2.2.1 1
      have y2_2 : w2.cell? ⟨w.heap.size, 2, none⟩ = some (.int .u64 x.n) := A2.2.1 2
      have y2_3 : w2.cell? ⟨w.heap.size, 3, none⟩ = some (.int .u64 x.c.b) := A2.2.1 3
      have y2_4 : w2.cell? ⟨w.heap.size, 4, none⟩ = some (.int .u64 x.c.e) := A2.2.1 4
      have y2_5 : w2.cell? ⟨w.heap.size, 5, none⟩ = some (.int .u64 x.c.c) := A2.2.1 5
      have y2_6 : w2.cell? ⟨w.heap.size, 6, none⟩ = some (.int .u8 x.c.p) := A2.2.1 6
      have y2_7 : w2.cell? ⟨w.heap.size, 7, none⟩ = some (.int .i64 x.c.s) := A2.2.1 7
      replace A2 := Hid.mk A2
      replace f2 := Hid.mk f2
      replace h2 := Hid.mk h2
      clear f1 h1 A1 y1_0 y1_1 y1_2 y1_3 y1_4 y1_5 y1_6 y1_7
      go_wp2_with fail
      go_ret
      exact ⟨rfl, S2, h2.out, (Mf.below ((Below.refl _ w).alloc (Nat.le_refl _) _)).trans f2.out⟩
    · have r1 : wrB b x = stB b 65528 8 x.n := by unfold wrB Wr.low; rw [if_neg (by omega), if_pos hk, if_neg hlow]
      have r2 : wrT t x = stT t 65528 8 := by unfold wrT Wr.low; rw [if_neg (by omega), if_pos hk, if_neg hlow]
      have hE : ldE 65528 8 = 0 := by unfold ldE; rw [word8 (by omega)]; rfl
      have hS := fun S1 W (q : Two S1 W a f b b t) => q.onT fun P hP => tgStore_any P a 65528 8 x.n b t W hP (by omega) (by omega)
      have hF := fun S1 W (q : Two S1 W a f (stB b 65528 8 x.n) b (stT t 65528 8)) => q.onF fun P hP => flStore_any P f 65528 8 x.n b W hP (by omega) (by omega)
      rw [hE] at hS hF
      rw [r1, r2]
      generalize stB b 65528 8 x.n = b1 at *
      generalize stT t 65528 8 = t1 at *
      clear r1 r2 hE e1 e2
      have d1 : (65528 : Int) < x.at := by omega
      have e3 : ((65528 : Nat) : Int) = 65528 := rfl
      simp only [e3] at hS hF
      clear e3
      rw [hk] at hp2
      replace hS := Hid.mk hS
      replace hF := Hid.mk hF
      replace h := Hid.mk h
      replace hA := Hid.mk hA
      unfold Wr.cells at *
      go_enter Try.func11, Try.ntmps11
      go_wp2_with fail
      refine (hp1 _).mono ?_
      rintro y w1 ⟨rfl, rfl⟩
      go_wp2_with fail
      refine (hp2 _).mono ?_
      rintro y w1 ⟨rfl, rfl⟩
      clear hp1 hp2
      go_wp2_with fail
      refine (hS.out _ _ (h0.out _)).mono ?_
      rintro y w1 ⟨rfl, S1, h1, f1⟩
      have A1 := at_kp hA.out f1.kp nS.out
      have y1_0 : w1.cell? ⟨w.heap.size, 0, none⟩ = some (.int .i64 x.a) := A1.2.1 0
      have y1_1 : w1.cell? ⟨w.heap.size, 1, none⟩ = some (.int .i64 x.k) := A1.2.1 1
      have y1_2 : w1.cell? ⟨w.heap.size, 2, none⟩ = some (.int .u64 x.n) := A1.2.1 2
      have y1_3 : w1.cell? ⟨w.heap.size, 3, none⟩ = some (.int .u64 x.c.b) := A1.2.1 3
      have y1_4 : w1.cell? ⟨w.heap.size, 4, none⟩ = some (.int .u64 x.c.e) := A1.2.1 4
      have y1_5 : w1.cell? ⟨w.heap.size, 5, none⟩ = some (.int .u64 x.c.c) := A1.2.1 5
      have y1_6 : w1.cell? ⟨w.heap.size, 6, none⟩ = some (.int .u8 x.c.p) := A1.2.1 6
      have y1_7 : w1.cell? ⟨w.heap.size, 7, none⟩ = some (.int .i64 x.c.s) := A1.2.1 7
      replace A1 := Hid.mk A1
      replace f1 := Hid.mk f1
      replace h1 := Hid.mk h1
      go_wp2_with fail
      refine (hF.out _ _ h1.out).mono ?_
      rintro y w2 ⟨rfl, S2, h2, f2⟩
      replace f2 := f1.out.trans f2
      have A2 := at_kp hA.out f2.kp nS.out
      have y2_0 : w2.cell? ⟨w.heap.size, 0, none⟩ = some (.int .i64 x.a) := A2.2.1 0
      have y2_1 : w2.cell? ⟨w.heap.size, 1, none⟩ = some (.int .i64 x.k) := A2.2.1 1
      have y2_2 : w2.cell? ⟨w.heap.size, 2, none⟩ = some (.int .u64 x.n) := A2.2.1 2
      have y2_3 : w2.cell? ⟨w.heap.size, 3, none⟩ = some (.int .u64 x.c.b) := A2.2.1 3
      have y2_4 : w2.cell? ⟨w.heap.size, 4, none⟩ = some (.int .u64 x.c.e) := A2.2.1 4
      have y2_5 : w2.cell? ⟨w.heap.size, 5, none⟩ = some (.int .u64 x.c.c) := A2.2.1 5
      have y2_6 : w2.cell? ⟨w.heap.size, 6, none⟩ = some (.int .u8 x.c.p) := A2.2.1 6
      have y2_7 : w2.cell? ⟨w.heap.size, 7, none⟩ = some (.int .i64 x.c.s) := A2.2.1 7
      replace A2 := Hid.mk A2
      replace f2 := Hid.mk f2
      replace h2 := Hid.mk h2
      clear f1 h1 A1 y1_0 y1_1 y1_2 y1_3 y1_4 y1_5 y1_6 y1_7
      go_wp2_with fail
      go_ret
      exact ⟨rfl, S2, h2.out, (Mf.below ((Below.refl _ w).alloc (Nat.le_refl _) _)).trans f2.out⟩
  · have r0 : x.val = ⟨true, 0, x.c⟩ := by unfold Wr.val; rw [if_pos hk]
    have hg := gran hl1
    have hpl : x.place = x.at / 16 * 16 := rfl
    rw [← hpl] at hg
    have hp : x.place ≤ 65520 := by omega
    have r1 : wrB b x = scB b x.place ⟨true, 0, x.c⟩ := by unfold wrB; rw [if_neg (by omega), if_neg (by omega), r0]
    have r2 : wrT t x = scT t x.place ⟨true, 0, x.c⟩ := by unfold wrT; rw [if_neg (by omega), if_neg (by omega), r0]
    have hE : lcE x.place = 0 := by unfold lcE; rw [hg]; rfl
    have hE1 : ldE x.place 8 = 0 := by unfold ldE; rw [word8 (by omega)]; rfl
    have hE2 : ldE (x.place + 8) 8 = 0 := by unfold ldE; rw [word8 (by omega)]; rfl
    have h2 := scB_two b x.place ⟨true, 0, x.c⟩ hp hg
    have hS := fun S1 W (q : Two S1 W a f b b t) => q.onT fun P hP => tgStoreCap_any P a x.place b t ⟨true, 0, x.c⟩ W hP (by omega) hx.rc.rc.1
    have hF := fun S1 W b1 t1 (q : Two S1 W a f b1 b t1) => q.onF fun P hP => flStore_any P f x.place 8 x.c.c.toNat b W hP (by omega) (by omega)
    have hG := fun S1 W b1 b2 t1 (q : Two S1 W a f b1 b2 t1) => q.onF fun P hP => flStore_any P f (x.place + 8) 8 0 b2 W hP (by omega) (by omega)
    rw [hE] at hS
    rw [hE1] at hF
    rw [hE2] at hG
    have hG' := fun S1 W b1 t1 (q : Two S1 W a f b1 (stB b x.place 8 x.c.c.toNat) t1) => hG S1 W b1 _ t1 q
    have hnum : (⟨true, 0, x.c⟩ : Vl).num = x.c.c.toNat := rfl
    rw [hnum] at h2
    rw [h2] at hG'
    rw [r1, r2]
    generalize scB b x.place ⟨true, 0, x.c⟩ = b1 at *
    generalize scT t x.place ⟨true, 0, x.c⟩ = t1 at *
    generalize stB b x.place 8 x.c.c.toNat = b2 at *
    replace hF := fun S1 W (q : Two S1 W a f b1 b t1) => hF S1 W b1 t1 q
    have hG := fun S1 W (q : Two S1 W a f b1 b2 t1) => hG' S1 W b1 t1 q
    clear hG'
    have ep : ((x.place : Nat) : Int) = (x.at : Int) / 16 * 16 := by omega
    have m0 : IntKind.u64.wrap ((x.at : Int) / 16 * 16 + 8) = (x.at : Int) / 16 * 16 + 8 := by rw [IntKind.wrap_u64]; omega
    simp only [Vl.agg, ep] at hS
    simp only [ep] at hF
    simp only [Int.natCast_add, ep] at hG
    have hn : ((x.c.c.toNat : Nat) : Int) = x.c.c := by have := hx.rc.rc.1; omega
    simp only [hn] at hF
    clear hn
    clear r0 r1 r2 hE hE1 hE2 e1 e2 ep hg hp h2 hnum hpl
    replace hG := Hid.mk hG
    rw [hk] at hp2
    replace hS := Hid.mk hS
    replace hF := Hid.mk hF
    replace h := Hid.mk h
    replace hA := Hid.mk hA
    unfold Wr.cells at *
    go_enter Try.func11, Try.ntmps11
    go_wp2_with fail
    refine (hp1 _).mono ?_
    rintro y w1 ⟨rfl, rfl⟩
    go_wp2_with fail
    refine (hp2 _).mono ?_
    rintro y w1 ⟨rfl, rfl⟩
    clear hp1 hp2
    go_wp2_with fail
    refine (hS.out _ _ (h0.out _)).mono ?_
    rintro y w1 ⟨rfl, S1, h1, f1⟩
    have A1 := at_kp hA.out f1.kp nS.out
    have y1_0 : w1.cell? ⟨w.heap.size, 0, none⟩ = some (.int .i64 x.a) := A1.2.1 0
    have y1_1 : w1.cell? ⟨w.heap.size, 1, none⟩ = some (.int .i64 x.k) := A1.2.1 1
    have y1_2 : w1.cell? ⟨w.heap.size, 2, none⟩ = some (.int .u64 x.n) := A1.2.1 2
    have y1_3 : w1.cell? ⟨w.heap.size, 3, none⟩ = some (.int .u64 x.c.b) := A1.2.1 3
    have y1_4 : w1.cell? ⟨w.heap.size, 4, none⟩ = some (.int .u64 x.c.e) := A1.2.1 4
    have y1_5 : w1.cell? ⟨w.heap.size, 5, none⟩ = some (.int .u64 x.c.c) := A1.2.1 5
    have y1_6 : w1.cell? ⟨w.heap.size, 6, none⟩ = some (.int .u8 x.c.p) := A1.2.1 6
    have y1_7 : w1.cell? ⟨w.heap.size, 7, none⟩ = some (.int .i64 x.c.s) := A1.2.1 7
    replace A1 := Hid.mk A1
    replace f1 := Hid.mk f1
    replace h1 := Hid.mk h1
    go_wp2_with fail
    refine (hF.out _ _ h1.out).mono ?_
    rintro y w2 ⟨rfl, S2, h2, f2⟩
    replace f2 := f1.out.trans f2
    have A2 := at_kp hA.out f2.kp nS.out
    have y2_0 : w2.cell? ⟨w.heap.size, 0, none⟩ = some (.int .i64 x.a) := A2.2.1 0
    have y2_1 : w2.cell? ⟨w.heap.size, 1, none⟩ = some (.int .i64 x.k) := A2.2.1 1
    have y2_2 : w2.cell? ⟨w.heap.size, 2, none⟩ = some (.int .u64 x.n) := A2.2.1 2
    have y2_3 : w2.cell? ⟨w.heap.size, 3, none⟩ = some (.int .u64 x.c.b) := A2.2.1 3
    have y2_4 : w2.cell? ⟨w.heap.size, 4, none⟩ = some (.int .u64 x.c.e) := A2.2.1 4
    have y2_5 : w2.cell? ⟨w.heap.size, 5, none⟩ = some (.int .u64 x.c.c) := A2.2.1 5
    have y2_6 : w2.cell? ⟨w.heap.size, 6, none⟩ = some (.int .u8 x.c.p) := A2.2.1 6
    have y2_7 : w2.cell? ⟨w.heap.size, 7, none⟩ = some (.int .i64 x.c.s) := A2.2.1 7
    replace A2 := Hid.mk A2
    replace f2 := Hid.mk f2
    replace h2 := Hid.mk h2
    clear f1 h1 A1 y1_0 y1_1 y1_2 y1_3 y1_4 y1_5 y1_6 y1_7
    go_wp2_with fail
    refine (hG.out _ _ h2.out).mono ?_
    rintro y w3 ⟨rfl, S3, h3, f3⟩
    replace f3 := f2.out.trans f3
    replace f3 := Hid.mk f3
    replace h3 := Hid.mk h3
    clear f2 h2 A2 y2_0 y2_1 y2_2 y2_3 y2_4 y2_5 y2_6 y2_7
    go_wp2_with fail
    go_ret
    exact ⟨rfl, S3, h3.out, (Mf.below ((Below.refl _ w).alloc (Nat.le_refl _) _)).trans f3.out⟩
  · have r0 : x.val = ⟨false, x.n, Cp.zero⟩ := by unfold Wr.val; rw [if_neg (by omega)]
    have hg := gran hl1
    have hpl : x.place = x.at / 16 * 16 := rfl
    rw [← hpl] at hg
    have hp : x.place ≤ 65520 := by omega
    have r1 : wrB b x = scB b x.place ⟨false, x.n, Cp.zero⟩ := by unfold wrB; rw [if_neg (by omega), if_neg (by omega), r0]
    have r2 : wrT t x = scT t x.place ⟨false, x.n, Cp.zero⟩ := by unfold wrT; rw [if_neg (by omega), if_neg (by omega), r0]
    have hE : lcE x.place = 0 := by unfold lcE; rw [hg]; rfl
    have hE1 : ldE x.place 8 = 0 := by unfold ldE; rw [word8 (by omega)]; rfl
    have hE2 : ldE (x.place + 8) 8 = 0 := by unfold ldE; rw [word8 (by omega)]; rfl
    have h2 := scB_two b x.place ⟨false, x.n, Cp.zero⟩ hp hg
    have hS := fun S1 W (q : Two S1 W a f b b t) => q.onT fun P hP => tgStoreCap_any P a x.place b t ⟨false, x.n, Cp.zero⟩ W hP (by omega) (show (0 : Int) ≤ 0 from Int.le_refl 0)
    have hF := fun S1 W b1 t1 (q : Two S1 W a f b1 b t1) => q.onF fun P hP => flStore_any P f x.place 8 x.n b W hP (by omega) (by omega)
    have hG := fun S1 W b1 b2 t1 (q : Two S1 W a f b1 b2 t1) => q.onF fun P hP => flStore_any P f (x.place + 8) 8 0 b2 W hP (by omega) (by omega)
    rw [hE] at hS
    rw [hE1] at hF
    rw [hE2] at hG
    have hG' := fun S1 W b1 t1 (q : Two S1 W a f b1 (stB b x.place 8 x.n) t1) => hG S1 W b1 _ t1 q
    have hnum : (⟨false, x.n, Cp.zero⟩ : Vl).num = x.n := rfl
    rw [hnum] at h2
    rw [h2] at hG'
    rw [r1, r2]
    generalize scB b x.place ⟨false, x.n, Cp.zero⟩ = b1 at *
    generalize scT t x.place ⟨false, x.n, Cp.zero⟩ = t1 at *
    generalize stB b x.place 8 x.n = b2 at *
    replace hF := fun S1 W (q : Two S1 W a f b1 b t1) => hF S1 W b1 t1 q
    have hG := fun S1 W (q : Two S1 W a f b1 b2 t1) => hG' S1 W b1 t1 q
    clear hG'
    have ep : ((x.place : Nat) : Int) = (x.at : Int) / 16 * 16 := by omega
    have m0 : IntKind.u64.wrap ((x.at : Int) / 16 * 16 + 8) = (x.at : Int) / 16 * 16 + 8 := by rw [IntKind.wrap_u64]; omega
    simp only [Vl.agg, Cp.zero, ep] at hS
    simp only [ep] at hF
    simp only [Int.natCast_add, ep] at hG
    clear r0 r1 r2 hE hE1 hE2 e1 e2 ep hg hp h2 hnum hpl
    replace hG := Hid.mk hG
    rw [hk] at hp2
    replace hS := Hid.mk hS
    replace hF := Hid.mk hF
    replace h := Hid.mk h
    replace hA := Hid.mk hA
    unfold Wr.cells at *
    go_enter Try.func11, Try.ntmps11
    go_wp2_with fail
    refine (hp1 _).mono ?_
    rintro y w1 ⟨rfl, rfl⟩
    go_wp2_with fail
    refine (hp2 _).mono ?_
    rintro y w1 ⟨rfl, rfl⟩
    clear hp1 hp2
    go_wp2_with fail
    refine (hS.out _ _ (h0.out _)).mono ?_
    rintro y w1 ⟨rfl, S1, h1, f1⟩
    have A1 := at_kp hA.out f1.kp nS.out
    have y1_0 : w1.cell? ⟨w.heap.size, 0, none⟩ = some (.int .i64 x.a) := A1.2.1 0
    have y1_1 : w1.cell? ⟨w.heap.size, 1, none⟩ = some (.int .i64 x.k) := A1.2.1 1
    have y1_2 : w1.cell? ⟨w.heap.size, 2, none⟩ = some (.int .u64 x.n) := A1.2.1 2
    have y1_3 : w1.cell? ⟨w.heap.size, 3, none⟩ = some (.int .u64 x.c.b) := A1.2.1 3
    have y1_4 : w1.cell? ⟨w.heap.size, 4, none⟩ = some (.int .u64 x.c.e) := A1.2.1 4
    have y1_5 : w1.cell? ⟨w.heap.size, 5, none⟩ = some (.int .u64 x.c.c) := A1.2.1 5
    have y1_6 : w1.cell? ⟨w.heap.size, 6, none⟩ = some (.int .u8 x.c.p) := A1.2.1 6
    have y1_7 : w1.cell? ⟨w.heap.size, 7, none⟩ = some (.int .i64 x.c.s) := A1.2.1 7
    replace A1 := Hid.mk A1
    replace f1 := Hid.mk f1
    replace h1 := Hid.mk h1
    go_wp2_with fail
    refine (hF.out _ _ h1.out).mono ?_
    rintro y w2 ⟨rfl, S2, h2, f2⟩
    replace f2 := f1.out.trans f2
    have A2 := at_kp hA.out f2.kp nS.out
    have y2_0 : w2.cell? ⟨w.heap.size, 0, none⟩ = some (.int .i64 x.a) := A2.2.1 0
    have y2_1 : w2.cell? ⟨w.heap.size, 1, none⟩ = some (.int .i64 x.k) := A2.2.1 1
    have y2_2 : w2.cell? ⟨w.heap.size, 2, none⟩ = some (.int .u64 x.n) := A2.2.1 2
    have y2_3 : w2.cell? ⟨w.heap.size, 3, none⟩ = some (.int .u64 x.c.b) := A2.2.1 3
    have y2_4 : w2.cell? ⟨w.heap.size, 4, none⟩ = some (.int .u64 x.c.e) := A2.2.1 4
    have y2_5 : w2.cell? ⟨w.heap.size, 5, none⟩ = some (.int .u64 x.c.c) := A2.2.1 5
    have y2_6 : w2.cell? ⟨w.heap.size, 6, none⟩ = some (.int .u8 x.c.p) := A2.2.1 6
    have y2_7 : w2.cell? ⟨w.heap.size, 7, none⟩ = some (.int .i64 x.c.s) := A2.2.1 7
    replace A2 := Hid.mk A2
    replace f2 := Hid.mk f2
    replace h2 := Hid.mk h2
    clear f1 h1 A1 y1_0 y1_1 y1_2 y1_3 y1_4 y1_5 y1_6 y1_7
    go_wp2_with fail
    refine (hG.out _ _ h2.out).mono ?_
    rintro y w3 ⟨rfl, S3, h3, f3⟩
    replace f3 := f2.out.trans f3
    replace f3 := Hid.mk f3
    replace h3 := Hid.mk h3
    clear f2 h2 A2 y2_0 y2_1 y2_2 y2_3 y2_4 y2_5 y2_6 y2_7
    go_wp2_with fail
    go_ret
    exact ⟨rfl, S3, h3.out, (Mf.below ((Below.refl _ w).alloc (Nat.le_refl _) _)).trans f3.out⟩
end T
end Go.Proofs.Ytbmkefpgfifigaa
