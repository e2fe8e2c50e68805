import Derived.Test.YtimiofkiadlnbaaZIn
import Derived.Test.YtimiofkiadlnbaaTEin
import Derived.Test.YtimiofkiadlnbaaRRow0
/-
  Stage 13, fastvm: what may be.
-/
namespace Go.Proofs.Ytimiofkiadlnbaa
namespace Z
open Go.RowKit
open T (Sep Ob Kp Mf FlIn boxOb)

def Named (op : Int) : Prop := (0 ≤ op ∧ op ≤ 13) ∨ (20 ≤ op ∧ op ≤ 24) ∨ (27 ≤ op ∧ op ≤ 32) ∨ (60 ≤ op ∧ op ≤ 65) ∨ (70 ≤ op ∧ op ≤ 72)
/-- An instruction of a row of so many, where there are so many gates. -/
structure Fi.Ok (i : Fi) (n k : Nat) : Prop where
  op : Named i.op
  a : i.a < 16
  b : i.b < 16
  c : i.c < 16 ∨ 70 ≤ i.op ∧ i.c ≤ 255
  im : 0 ≤ i.i ∧ i.i < 18446744073709551616
  jm : 20 ≤ i.op ∧ i.op ≤ 24 → i.i < n
  cl : i.op = 31 → i.i < k
set_option maxRecDepth 100000 in
set_option maxHeartbeats 4000000 in
theorem isWithin_ok (n lo hi : Int) (w : World) (h1 : lo ≤ n) (h2 : n ≤ hi) :
    Calls Try.prog 21 #[.int .i64 n, .int .i64 lo, .int .i64 hi] w fun x w' => x = .returned (.bool true) ∧ w' = w := by
  go_enter Try.func21, Try.ntmps21
  go_wp2_with fail
  go_ret
  exact ⟨rfl, rfl⟩
set_option maxRecDepth 100000 in
set_option maxHeartbeats 4000000 in
theorem isNamed_ok (op : Int) (w : World) (h : Named op) :
    Calls Try.prog 28 #[.int .u8 op] w fun x w' => x = .returned (.bool true) ∧ w' = w := by
  rcases h with h | h | h | h | h
  · skip
    have y1 : op ≤ 13 := by omega
    have y2 : 0 ≤ op := by omega
    clear h
    go_enter Try.func28, Try.ntmps28
    go_wp2_with fail
    go_ret
    exact ⟨rfl, rfl⟩
  · skip
    have n0 : ¬ op ≤ 13 := by omega
    have y1 : op ≤ 24 := by omega
    have y2 : 20 ≤ op := by omega
    clear h
    go_enter Try.func28, Try.ntmps28
    go_wp2_with fail
    go_ret
    exact ⟨rfl, rfl⟩
  · skip
    have n0 : ¬ op ≤ 13 := by omega
    have n1 : ¬ op ≤ 24 := by omega
    have y1 : op ≤ 32 := by omega
    have y2 : 27 ≤ op := by omega
    clear h
    go_enter Try.func28, Try.ntmps28
    go_wp2_with fail
    go_ret
    exact ⟨rfl, rfl⟩
  · skip
    have n0 : ¬ op ≤ 13 := by omega
    have n1 : ¬ op ≤ 24 := by omega
    have n2 : ¬ op ≤ 32 := by omega
    have y1 : op ≤ 65 := by omega
    have y2 : 60 ≤ op := by omega
    clear h
    go_enter Try.func28, Try.ntmps28
    go_wp2_with fail
    go_ret
    exact ⟨rfl, rfl⟩
  · skip
    have n0 : ¬ op ≤ 13 := by omega
    have n1 : ¬ op ≤ 24 := by omega
    have n2 : ¬ op ≤ 32 := by omega
    have n3 : ¬ op ≤ 65 := by omega
    have y1 : op ≤ 72 := by omega
    have y2 : 70 ≤ op := by omega
    clear h
    go_enter Try.func28, Try.ntmps28
    go_wp2_with fail
    go_ret
    exact ⟨rfl, rfl⟩
set_option maxRecDepth 100000 in
set_option maxHeartbeats 4000000 in
theorem fields_ok (i : Fi) (w : World) (ha : i.a < 16) (hb : i.b < 16) (hc : i.c < 16 ∨ 70 ≤ i.op ∧ i.c ≤ 255) :
    Calls Try.prog 29 #[.agg #[.int .u8 i.op, .int .i64 i.a, .int .i64 i.b, .int .i64 i.c, .int .u64 i.i]] w fun x w' => x = .returned (.bool true) ∧ Gr w w' := by
  by_cases h70 : 70 ≤ i.op
  · have hcc : i.c ≤ 255 := by omega
    clear hc
    go_enter Try.func29, Try.ntmps29
    go_wp2_with fail
    refine (isWithin_ok _ _ _ _ (by omega) (by omega)).mono ?_
    rintro r w1 ⟨rfl, e1⟩
    subst e1
    go_wp2_with fail
    refine (isWithin_ok _ _ _ _ (by omega) (by omega)).mono ?_
    rintro r w1 ⟨rfl, e1⟩
    subst e1
    go_wp2_with fail
    refine (isWithin_ok _ _ _ _ (by omega) (by omega)).mono ?_
    rintro r w1 ⟨rfl, e1⟩
    subst e1
    go_wp2_with fail
    go_ret
    exact ⟨rfl, (Gr.refl w).alloc _⟩
  · have hcc : i.c < 16 := by omega
    clear hc
    go_enter Try.func29, Try.ntmps29
    go_wp2_with fail
    refine (isWithin_ok _ _ _ _ (by omega) (by omega)).mono ?_
    rintro r w1 ⟨rfl, e1⟩
    subst e1
    go_wp2_with fail
    refine (isWithin_ok _ _ _ _ (by omega) (by omega)).mono ?_
    rintro r w1 ⟨rfl, e1⟩
    subst e1
    go_wp2_with fail
    refine (isWithin_ok _ _ _ _ (by omega) (by omega)).mono ?_
    rintro r w1 ⟨rfl, e1⟩
    subst e1
    go_wp2_with fail
    go_ret
    exact ⟨rfl, (Gr.refl w).alloc _⟩
set_option maxRecDepth 100000 in
set_option maxHeartbeats 4000000 in
theorem there_ok (i : Fi) (n k : Nat) (w : World) (hl : n ≤ 1000 ∧ k ≤ 1000) (jm : 20 ≤ i.op ∧ i.op ≤ 24 → i.i < n) (cl : i.op = 31 → i.i < k) :
    Calls Try.prog 30 #[.agg #[.int .u8 i.op, .int .i64 i.a, .int .i64 i.b, .int .i64 i.c, .int .u64 i.i], .int .i64 n, .int .i64 k] w fun x w' => x = .returned (.bool true) ∧ Gr w w' := by
  obtain ⟨op, ia, ib, ic, im⟩ := i
  dsimp only at *
  have hn : IntKind.u64.wrap (n : Int) = (n : Int) := by simp [IntKind.wrap, IntKind.bits, IntKind.signed]; omega
  have hk : IntKind.u64.wrap (k : Int) = (k : Int) := by simp [IntKind.wrap, IntKind.bits, IntKind.signed]; omega
  replace hl := Hz.mk hl
  by_cases e20 : op = 20
  · subst e20
    have y := jm ⟨by omega, by omega⟩
    clear jm cl
    go_enter Try.func30, Try.ntmps30
    go_wp2_with fail
    go_ret
    exact ⟨rfl, (Gr.refl w).alloc _⟩
  by_cases e21 : op = 21
  · subst e21
    have y := jm ⟨by omega, by omega⟩
    clear jm cl
    go_enter Try.func30, Try.ntmps30
    go_wp2_with fail
    go_ret
    exact ⟨rfl, (Gr.refl w).alloc _⟩
  by_cases e22 : op = 22
  · subst e22
    have y := jm ⟨by omega, by omega⟩
    clear jm cl
    go_enter Try.func30, Try.ntmps30
    go_wp2_with fail
    go_ret
    exact ⟨rfl, (Gr.refl w).alloc _⟩
  by_cases e23 : op = 23
  · subst e23
    have y := jm ⟨by omega, by omega⟩
    clear jm cl
    go_enter Try.func30, Try.ntmps30
    go_wp2_with fail
    go_ret
    exact ⟨rfl, (Gr.refl w).alloc _⟩
  by_cases e24 : op = 24
  · subst e24
    have y := jm ⟨by omega, by omega⟩
    clear jm cl
    go_enter Try.func30, Try.ntmps30
    go_wp2_with fail
    go_ret
    exact ⟨rfl, (Gr.refl w).alloc _⟩
  by_cases e31 : op = 31
  · subst e31
    have y := cl rfl
    clear jm cl
    go_enter Try.func30, Try.ntmps30
    go_wp2_with fail
    go_ret
    exact ⟨rfl, (Gr.refl w).alloc _⟩
  have f20 : (op == 20) = false := by simpa using e20
  have f21 : (op == 21) = false := by simpa using e21
  have f22 : (op == 22) = false := by simpa using e22
  have f23 : (op == 23) = false := by simpa using e23
  have f24 : (op == 24) = false := by simpa using e24
  have f31 : (op == 31) = false := by simpa using e31
  clear jm cl e20 e21 e22 e23 e24 e31
  go_enter Try.func30, Try.ntmps30
  go_wp2_with fail
  go_ret
  exact ⟨rfl, (Gr.refl w).alloc _⟩
end Z
end Go.Proofs.Ytimiofkiadlnbaa


/-
  Stage 13, fastvm: gates and rows that may be.
-/
namespace Go.Proofs.Ytimiofkiadlnbaa
namespace Z
open Go.RowKit
open T (Sep Ob Kp Mf FlIn boxOb)

theorem Fg.len (g : Fg) : g.vals.length = 19 := by simp [Fg.vals, regs_len]
set_option maxRecDepth 100000 in
set_option maxHeartbeats 4000000 in
theorem gate_ok (g : Fg) (n : Nat) (w : World) (he : g.e < n) (ha : g.a ≤ 7) (hs : g.s ≤ 7) (hn : n ≤ 1000) :
    Calls Try.prog 23 #[.agg (Fg.vals g).toArray, .int .i64 n] w fun x w' => x = .returned (.bool true) ∧ Gr w w' := by
  have e1 : wrap64 ((n : Int) - 1) = (n : Int) - 1 := by unfold wrap64; omega
  go_enter Try.func23, Try.ntmps23
  go_upto_region 1 with fail
  refine wp_world (fun W => At W w.heap.size (Fg.vals g).toArray ∧ Gr w W) ⟨At.new w _ _, (Gr.refl _).alloc _⟩ ?_
  rintro W ⟨hA, G⟩
  generalize w.heap.size = kb at *
  have c0 : W.cell? ⟨kb, 0, none⟩ = some (.int .i64 g.e) := hA.2.1 0
  have c1 : W.cell? ⟨kb, 1, none⟩ = some (.int .i64 g.a) := hA.2.1 1
  have c2 : W.cell? ⟨kb, 2, none⟩ = some (.int .i64 g.s) := hA.2.1 2
  replace hA := Hz.mk hA
  go_wp2_with fail
  refine (isWithin_ok _ _ _ _ (by omega) (by omega)).mono ?_
  rintro r w1 ⟨rfl, e1⟩
  subst e1
  go_wp2_with fail
  refine (isWithin_ok _ _ _ _ (by omega) (by omega)).mono ?_
  rintro r w1 ⟨rfl, e1⟩
  subst e1
  go_wp2_with fail
  refine (isWithin_ok _ _ _ _ (by omega) (by omega)).mono ?_
  rintro r w1 ⟨rfl, e1⟩
  subst e1
  go_wp2_with fail
  go_ret
  exact ⟨rfl, G⟩
theorem eat5 {w W : World} {a : Option Addr} {L : List Fi} (h : T.EIn 5 Fi.vals w a L) (g : Gr w W) (j : Nat) (hj : j < L.length) : ∃ b off : Nat, a = some ⟨b, off, none⟩ ∧ b < W.heap.size ∧ W.rangeAt b (off + j * 5) L[j].vals := by
  obtain ⟨b, off, e1, e2, e3⟩ := h j hj
  exact ⟨b, off, e1, Nat.lt_of_lt_of_le e2 g.below.size, fun i v q => (T.cell_of_block (g.below.block b e2) _).trans (e3 i v q)⟩
theorem next_wY {p n : Nat} (h : p < n) (hn : n ≤ 1000000) : wrap64 ((p : Int) + 1) = ((p + 1 : Nat) : Int) := by unfold wrap64; omega
theorem next_mY {k n : Nat} (h : k < n) : n - (intOf (.int .i64 ((k + 1 : Nat) : Int))).toNat < n - (intOf (.int .i64 (k : Int))).toNat := by simp [intOf]; omega
set_option maxRecDepth 100000 in
set_option maxHeartbeats 4000000 in
theorem row_ok (L : List Fi) (a : Option Addr) (c k : Nat) (w : World) (hL : T.EIn 5 Fi.vals w a L) (hl : 1 ≤ L.length ∧ L.length ≤ 400) (hk : k ≤ 1000) (ok : ∀ i ∈ L, i.Ok L.length k) :
    Calls Try.prog 22 #[.slice a L.length c, .int .i64 k] w fun x w' => x = .returned (.bool true) ∧ Gr w w' := by
  replace hL := Hz.mk hL
  replace ok := Hz.mk ok
  have hlen : L.length ≤ 1000000 := by omega
  go_enter Try.func22, Try.ntmps22
  go_wp2_with fail
  refine (isWithin_ok _ _ _ _ (by omega) (by omega)).mono ?_
  rintro r w1 ⟨rfl, e1⟩
  subst e1
  go_upto_region 4 with fail
  go_loopw [13] (fun x wr => ∃ j : Nat, x = .int .i64 j ∧ j ≤ L.length ∧ Hz (Gr w1 wr)) (fun x _ => L.length - (intOf x).toNat)
  case atStart => exact ⟨0, rfl, Nat.zero_le _, Hz.mk (Gr.refl _)⟩
  case round =>
    obtain ⟨j, rfl, hj, G⟩ := hrel
    by_cases hlt : j < L.length
    · have hj1 : (j : Int) < (L.length : Int) := Int.ofNat_lt.2 hlt
      obtain ⟨b, off, rfl, hb, hr⟩ := eat5 hL.out G.out j hlt
      have hok := ok.out _ (List.getElem_mem hlt)
      generalize L[j] = i at *
      have c0 : wr.cell? ⟨b, off + j * 5, none⟩ = some (.int .u8 i.op) := hr 0 _ rfl
      have c1 : wr.cell? ⟨b, off + j * 5 + 1, none⟩ = some (.int .i64 i.a) := hr 1 _ rfl
      have c2 : wr.cell? ⟨b, off + j * 5 + 1 + 1, none⟩ = some (.int .i64 i.b) := hr 2 _ rfl
      have c3 : wr.cell? ⟨b, off + j * 5 + 1 + 1 + 1, none⟩ = some (.int .i64 i.c) := hr 3 _ rfl
      have c4 : wr.cell? ⟨b, off + j * 5 + 1 + 1 + 1 + 1, none⟩ = some (.int .u64 i.i) := hr 4 _ rfl
      replace hok := Hz.mk hok
      replace hr := Hz.mk hr
      go_upto_region 6 with fail
      refine wp_world (fun W => At W wr.heap.size #[.int .u8 i.op, .int .i64 i.a, .int .i64 i.b, .int .i64 i.c, .int .u64 i.i] ∧ Gr wr W) ⟨At.new wr _ _, (Gr.refl _).alloc _⟩ ?_
      rintro V ⟨hA, g1⟩
      replace G := Hz.mk (G.out.trans g1)
      generalize wr.heap.size = kb at *
      clear c0 c1 c2 c3 c4 hr hb g1
      have d0 : V.cell? ⟨kb, 0, none⟩ = some (.int .u8 i.op) := hA.2.1 0
      have d1 : V.cell? ⟨kb, 1, none⟩ = some (.int .i64 i.a) := hA.2.1 1
      have d2 : V.cell? ⟨kb, 2, none⟩ = some (.int .i64 i.b) := hA.2.1 2
      have d3 : V.cell? ⟨kb, 3, none⟩ = some (.int .i64 i.c) := hA.2.1 3
      have d4 : V.cell? ⟨kb, 4, none⟩ = some (.int .u64 i.i) := hA.2.1 4
      go_wp2_with fail
      refine (isNamed_ok _ _ hok.out.op).mono ?_
      rintro r V1 ⟨rfl, e1⟩
      subst e1
      go_wp2_with fail
      refine (fields_ok i _ hok.out.a hok.out.b hok.out.c).mono ?_
      rintro r V2 ⟨rfl, g2⟩
      have hA2 := hA.gr g2
      clear d0 d1 d2 d3 d4
      have d0 : V2.cell? ⟨kb, 0, none⟩ = some (.int .u8 i.op) := hA2.2.1 0
      have d1 : V2.cell? ⟨kb, 1, none⟩ = some (.int .i64 i.a) := hA2.2.1 1
      have d2 : V2.cell? ⟨kb, 2, none⟩ = some (.int .i64 i.b) := hA2.2.1 2
      have d3 : V2.cell? ⟨kb, 3, none⟩ = some (.int .i64 i.c) := hA2.2.1 3
      have d4 : V2.cell? ⟨kb, 4, none⟩ = some (.int .u64 i.i) := hA2.2.1 4
      go_wp2_with fail
      refine (there_ok i L.length k _ ⟨by omega, hk⟩ hok.out.jm hok.out.cl).mono ?_
      rintro r V3 ⟨rfl, g3⟩
      have G4 := Hz.mk ((G.out.trans g2).trans g3)
      clear G g2 g3 hA hA2 d0 d1 d2 d3 d4 hok
      go_wp2_with fail
      refine ⟨⟨j + 1, ?_, hlt, G4⟩, ?_⟩
      · first | rfl | rw [next_wY hlt hlen] | go_num
      · first | exact next_mY hlt | (rw [next_wY hlt hlen]; exact next_mY hlt)
    · have hj1 : ¬ (j : Int) < (L.length : Int) := fun q => hlt (Int.ofNat_lt.1 q)
      go_wp2_with fail
      go_ret
      exact ⟨rfl, G.out⟩
end Z
end Go.Proofs.Ytimiofkiadlnbaa
