import Derived.Test.YthfphgjjieddjaaGreatZIn
import Derived.Test.YthfphgjjieddjaaGreatTEin
import Derived.Test.YthfphgjjieddjaaGreatRRow0
namespace Go.Proofs.YthfphgjjieddjaaGreat
set_option maxRecDepth 100000
set_option maxHeartbeats 40000000
namespace Z
open Go.RowKit
open T (Sep Ob Kp Mf FlIn boxOb)

def Named (op : Int) : Prop := (0 ≤ op ∧ op ≤ 13) ∨ (20 ≤ op ∧ op ≤ 24) ∨ (27 ≤ op ∧ op ≤ 32) ∨ (60 ≤ op ∧ op ≤ 65) ∨ (70 ≤ op ∧ op ≤ 72)
structure Fi.Ok (i : Fi) (n k : Nat) : Prop where
 op : Named i.op
 a : i.a < 16
 b : i.b < 16
 c : i.c < 16 ∨ 70 ≤ i.op ∧ i.c ≤ 255
 im : 0 ≤ i.i ∧ i.i < 18446744073709551616
 jm : 20 ≤ i.op ∧ i.op ≤ 24 → i.i < n
 cl : i.op = 31 → i.i < k
theorem isWithin_ok (n lo hi : Int) (w : World) (h1 : lo ≤ n) (h2 : n ≤ hi) :
   Calls Tryz.prog 43 #[.int .i64 n, .int .i64 lo, .int .i64 hi] w fun x w' => x = .returned (.bool true) ∧ w' = w := by
 go_enter Tryz.func43, Tryz.ntmps43
 go_wp2_with fail
 go_ret
 exact ⟨rfl, rfl⟩
theorem isNamed_ok (op : Int) (w : World) (h : Named op) :
   Calls Tryz.prog 58 #[.int .u8 op] w fun x w' => x = .returned (.bool true) ∧ w' = w := by
 rcases h with h | h | h | h | h
 · skip
   have y1 : op ≤ 13 := by omega
   have y2 : 0 ≤ op := by omega
   clear h
   go_enter Tryz.func58, Tryz.ntmps58
   go_wp2_with fail
   go_ret
   exact ⟨rfl, rfl⟩
 · skip
   have n0 : ¬ op ≤ 13 := by omega
   have y1 : op ≤ 24 := by omega
   have y2 : 20 ≤ op := by omega
   clear h
   go_enter Tryz.func58, Tryz.ntmps58
   go_wp2_with fail
   go_ret
   exact ⟨rfl, rfl⟩
 · skip
   have n0 : ¬ op ≤ 13 := by omega
   have n1 : ¬ op ≤ 24 := by omega
   have y1 : op ≤ 32 := by omega
   have y2 : 27 ≤ op := by omega
   clear h
   go_enter Tryz.func58, Tryz.ntmps58
   go_wp2_with fail
   go_ret
   exact ⟨rfl, rfl⟩
 · skip
   have n0 : ¬ op ≤ 13 := by omega
   have n1 : ¬ op ≤ 24 := by omega
   have n2 : ¬ op ≤ 32 := by omega
   have y1 : op ≤ 65 := by omega
   have y2 : 60 ≤ op := by omega
   clear h
   go_enter Tryz.func58, Tryz.ntmps58
   go_wp2_with fail
   go_ret
   exact ⟨rfl, rfl⟩
 · skip
   have n0 : ¬ op ≤ 13 := by omega
   have n1 : ¬ op ≤ 24 := by omega
   have n2 : ¬ op ≤ 32 := by omega
   have n3 : ¬ op ≤ 65 := by omega
   have y1 : op ≤ 72 := by omega
   have y2 : 70 ≤ op := by omega
   clear h
   go_enter Tryz.func58, Tryz.ntmps58
   go_wp2_with fail
   go_ret
   exact ⟨rfl, rfl⟩
theorem fields_ok (i : Fi) (w : World) (ha : i.a < 16) (hb : i.b < 16) (hc : i.c < 16 ∨ 70 ≤ i.op ∧ i.c ≤ 255) :
   Calls Tryz.prog 59 #[.agg #[.int .u8 i.op, .int .i64 i.a, .int .i64 i.b, .int .i64 i.c, .int .u64 i.i]] w fun x w' => x = .returned (.bool true) ∧ Gr w w' := by
 by_cases h70 : 70 ≤ i.op
 · have hcc : i.c ≤ 255 := by omega
   clear hc
   go_enter Tryz.func59, Tryz.ntmps59
   go_wp2_with fail
   refine (isWithin_ok _ _ _ _ (by omega) (by omega)).mono ?_
   rintro r w1 ⟨rfl, e1⟩
   subst e1
   go_wp2_with fail
   refine (isWithin_ok _ _ _ _ (by omega) (by omega)).mono ?_
   rintro r w1 ⟨rfl, e1⟩
   subst e1
   go_wp2_with fail
   refine (isWithin_ok _ _ _ _ (by omega) (by omega)).mono ?_
   rintro r w1 ⟨rfl, e1⟩
   subst e1
   go_wp2_with fail
   go_ret
   exact ⟨rfl, (Gr.refl w).alloc _⟩
 · have hcc : i.c < 16 := by omega
   clear hc
   go_enter Tryz.func59, Tryz.ntmps59
   go_wp2_with fail
   refine (isWithin_ok _ _ _ _ (by omega) (by omega)).mono ?_
   rintro r w1 ⟨rfl, e1⟩
   subst e1
   go_wp2_with fail
   refine (isWithin_ok _ _ _ _ (by omega) (by omega)).mono ?_
   rintro r w1 ⟨rfl, e1⟩
   subst e1
   go_wp2_with fail
   refine (isWithin_ok _ _ _ _ (by omega) (by omega)).mono ?_
   rintro r w1 ⟨rfl, e1⟩
   subst e1
   go_wp2_with fail
   go_ret
   exact ⟨rfl, (Gr.refl w).alloc _⟩
theorem there_ok (i : Fi) (n k : Nat) (w : World) (hl : n ≤ 1000 ∧ k ≤ 1000) (jm : 20 ≤ i.op ∧ i.op ≤ 24 → i.i < n) (cl : i.op = 31 → i.i < k) :
   Calls Tryz.prog 60 #[.agg #[.int .u8 i.op, .int .i64 i.a, .int .i64 i.b, .int .i64 i.c, .int .u64 i.i], .int .i64 n, .int .i64 k] w fun x w' => x = .returned (.bool true) ∧ Gr w w' := by
 obtain ⟨op, ia, ib, ic, im⟩ := i
 dsimp only at *
 have hn : IntKind.u64.wrap (n : Int) = (n : Int) := by simp [IntKind.wrap, IntKind.bits, IntKind.signed]; omega
 have hk : IntKind.u64.wrap (k : Int) = (k : Int) := by simp [IntKind.wrap, IntKind.bits, IntKind.signed]; omega
 replace hl := Hz.mk hl
 by_cases e20 : op = 20
 · subst e20
   have y := jm ⟨by omega, by omega⟩
   clear jm cl
   go_enter Tryz.func60, Tryz.ntmps60
   go_wp2_with fail
   go_ret
   exact ⟨rfl, (Gr.refl w).alloc _⟩
 by_cases e21 : op = 21
 · subst e21
   have y := jm ⟨by omega, by omega⟩
   clear jm cl
   go_enter Tryz.func60, Tryz.ntmps60
   go_wp2_with fail
   go_ret
   exact ⟨rfl, (Gr.refl w).alloc _⟩
 by_cases e22 : op = 22
 · subst e22
   have y := jm ⟨by omega, by omega⟩
   clear jm cl
   go_enter Tryz.func60, Tryz.ntmps60
   go_wp2_with fail
   go_ret
   exact ⟨rfl, (Gr.refl w).alloc _⟩
 by_cases e23 : op = 23
 · subst e23
   have y := jm ⟨by omega, by omega⟩
   clear jm cl
   go_enter Tryz.func60, Tryz.ntmps60
   go_wp2_with fail
   go_ret
   exact ⟨rfl, (Gr.refl w).alloc _⟩
 by_cases e24 : op = 24
 · subst e24
   have y := jm ⟨by omega, by omega⟩
   clear jm cl
   go_enter Tryz.func60, Tryz.ntmps60
   go_wp2_with fail
   go_ret
   exact ⟨rfl, (Gr.refl w).alloc _⟩
 by_cases e31 : op = 31
 · subst e31
   have y := cl rfl
   clear jm cl
   go_enter Tryz.func60, Tryz.ntmps60
   go_wp2_with fail
   go_ret
   exact ⟨rfl, (Gr.refl w).alloc _⟩
 have f20 : (op == 20) = false := by simpa using e20
 have f21 : (op == 21) = false := by simpa using e21
 have f22 : (op == 22) = false := by simpa using e22
 have f23 : (op == 23) = false := by simpa using e23
 have f24 : (op == 24) = false := by simpa using e24
 have f31 : (op == 31) = false := by simpa using e31
 clear jm cl e20 e21 e22 e23 e24 e31
 go_enter Tryz.func60, Tryz.ntmps60
 go_wp2_with fail
 go_ret
 exact ⟨rfl, (Gr.refl w).alloc _⟩
end Z
end Go.Proofs.YthfphgjjieddjaaGreat


namespace Go.Proofs.YthfphgjjieddjaaGreat
set_option maxRecDepth 100000
set_option maxHeartbeats 40000000
namespace Z
open Go.RowKit
open T (Sep Ob Kp Mf FlIn boxOb)

theorem Fg.len (g : Fg) : g.vals.length = 19 := by simp [Fg.vals, regs_len]
theorem gate_ok (g : Fg) (n : Nat) (w : World) (he : g.e < n) (ha : g.a ≤ 7) (hs : g.s ≤ 7) (hn : n ≤ 1000) :
   Calls Tryz.prog 45 #[.agg (Fg.vals g).toArray, .int .i64 n] w fun x w' => x = .returned (.bool true) ∧ Gr w w' := by
 have e1 : wrap64 ((n : Int) - 1) = (n : Int) - 1 := by unfold wrap64; omega
 go_enter Tryz.func45, Tryz.ntmps45
 go_upto_region 1 with fail
 refine wp_world (fun W => At W w.heap.size (Fg.vals g).toArray ∧ Gr w W) ⟨At.new w _ _, (Gr.refl _).alloc _⟩ ?_
 rintro W ⟨hA, G⟩
 generalize w.heap.size = kb at *
 have c0 : W.cell? ⟨kb, 0, none⟩ = some (.int .i64 g.e) := hA.2.1 0
 have c1 : W.cell? ⟨kb, 1, none⟩ = some (.int .i64 g.a) := hA.2.1 1
 have c2 : W.cell? ⟨kb, 2, none⟩ = some (.int .i64 g.s) := hA.2.1 2
 replace hA := Hz.mk hA
 go_wp2_with fail
 refine (isWithin_ok _ _ _ _ (by omega) (by omega)).mono ?_
 rintro r w1 ⟨rfl, e1⟩
 subst e1
 go_wp2_with fail
 refine (isWithin_ok _ _ _ _ (by omega) (by omega)).mono ?_
 rintro r w1 ⟨rfl, e1⟩
 subst e1
 go_wp2_with fail
 refine (isWithin_ok _ _ _ _ (by omega) (by omega)).mono ?_
 rintro r w1 ⟨rfl, e1⟩
 subst e1
 go_wp2_with fail
 go_ret
 exact ⟨rfl, G⟩
theorem eat5 {w W : World} {a : Option Addr} {L : List Fi} (h : T.EIn 5 Fi.vals w a L) (g : Gr w W) (j : Nat) (hj : j < L.length) : ∃ b off : Nat, a = some ⟨b, off, none⟩ ∧ b < W.heap.size ∧ W.rangeAt b (off + j * 5) L[j].vals := by
 obtain ⟨b, off, e1, e2, e3⟩ := h j hj
 exact ⟨b, off, e1, Nat.lt_of_lt_of_le e2 g.below.size, fun i v q => (T.cell_of_block (g.below.block b e2) _).trans (e3 i v q)⟩
theorem next_mY {k n : Nat} (h : k < n) : n - (intOf (.int .i64 ((k + 1 : Nat) : Int))).toNat < n - (intOf (.int .i64 (k : Int))).toNat := by simp [intOf]; omega
theorem row_ok (L : List Fi) (a : Option Addr) (c k : Nat) (w : World) (hL : T.EIn 5 Fi.vals w a L) (hl : 1 ≤ L.length ∧ L.length ≤ 400) (hk : k ≤ 1000) (ok : ∀ i ∈ L, i.Ok L.length k) :
   Calls Tryz.prog 44 #[.slice a L.length c, .int .i64 k] w fun x w' => x = .returned (.bool true) ∧ Gr w w' := by
 replace hL := Hz.mk hL
 replace ok := Hz.mk ok
 have hlen : L.length ≤ 1000000 := by omega
 go_enter Tryz.func44, Tryz.ntmps44
 go_wp2_with fail
 refine (isWithin_ok _ _ _ _ (by omega) (by omega)).mono ?_
 rintro r w1 ⟨rfl, e1⟩
 subst e1
 go_upto_region 4 with fail
 go_loopw [13] (fun x wr => ∃ j : Nat, x = .int .i64 j ∧ j ≤ L.length ∧ Hz (Gr w1 wr)) (fun x _ => L.length - (intOf x).toNat)
 case atStart => exact ⟨0, rfl, Nat.zero_le _, Hz.mk (Gr.refl _)⟩
 case round =>
   obtain ⟨j, rfl, hj, G⟩ := hrel
   by_cases hlt : j < L.length
   · have hj1 : (j : Int) < (L.length : Int) := Int.ofNat_lt.2 hlt
     obtain ⟨b, off, rfl, hb, hr⟩ := eat5 hL.out G.out j hlt
     have hok := ok.out _ (List.getElem_mem hlt)
     generalize L[j] = i at *
     have c0 : wr.cell? ⟨b, off + j * 5, none⟩ = some (.int .u8 i.op) := hr 0 _ rfl
     have c1 : wr.cell? ⟨b, off + j * 5 + 1, none⟩ = some (.int .i64 i.a) := hr 1 _ rfl
     have c2 : wr.cell? ⟨b, off + j * 5 + 1 + 1, none⟩ = some (.int .i64 i.b) := hr 2 _ rfl
     have c3 : wr.cell? ⟨b, off + j * 5 + 1 + 1 + 1, none⟩ = some (.int .i64 i.c) := hr 3 _ rfl
     have c4 : wr.cell? ⟨b, off + j * 5 + 1 + 1 + 1 + 1, none⟩ = some (.int .u64 i.i) := hr 4 _ rfl
     replace hok := Hz.mk hok
     replace hr := Hz.mk hr
     go_upto_region 6 with fail
     refine wp_world (fun W => At W wr.heap.size #[.int .u8 i.op, .int .i64 i.a, .int .i64 i.b, .int .i64 i.c, .int .u64 i.i] ∧ Gr wr W) ⟨At.new wr _ _, (Gr.refl _).alloc _⟩ ?_
     rintro V ⟨hA, g1⟩
     replace G := Hz.mk (G.out.trans g1)
     generalize wr.heap.size = kb at *
     clear c0 c1 c2 c3 c4 hr hb g1
     have d0 : V.cell? ⟨kb, 0, none⟩ = some (.int .u8 i.op) := hA.2.1 0
     have d1 : V.cell? ⟨kb, 1, none⟩ = some (.int .i64 i.a) := hA.2.1 1
     have d2 : V.cell? ⟨kb, 2, none⟩ = some (.int .i64 i.b) := hA.2.1 2
     have d3 : V.cell? ⟨kb, 3, none⟩ = some (.int .i64 i.c) := hA.2.1 3
     have d4 : V.cell? ⟨kb, 4, none⟩ = some (.int .u64 i.i) := hA.2.1 4
     go_wp2_with fail
     refine (isNamed_ok _ _ hok.out.op).mono ?_
     rintro r V1 ⟨rfl, e1⟩
     subst e1
     go_wp2_with fail
     refine (fields_ok i _ hok.out.a hok.out.b hok.out.c).mono ?_
     rintro r V2 ⟨rfl, g2⟩
     have hA2 := hA.gr g2
     clear d0 d1 d2 d3 d4
     have d0 : V2.cell? ⟨kb, 0, none⟩ = some (.int .u8 i.op) := hA2.2.1 0
     have d1 : V2.cell? ⟨kb, 1, none⟩ = some (.int .i64 i.a) := hA2.2.1 1
     have d2 : V2.cell? ⟨kb, 2, none⟩ = some (.int .i64 i.b) := hA2.2.1 2
     have d3 : V2.cell? ⟨kb, 3, none⟩ = some (.int .i64 i.c) := hA2.2.1 3
     have d4 : V2.cell? ⟨kb, 4, none⟩ = some (.int .u64 i.i) := hA2.2.1 4
     go_wp2_with fail
     refine (there_ok i L.length k _ ⟨by omega, hk⟩ hok.out.jm hok.out.cl).mono ?_
     rintro r V3 ⟨rfl, g3⟩
     have G4 := Hz.mk ((G.out.trans g2).trans g3)
     clear G g2 g3 hA hA2 d0 d1 d2 d3 d4 hok
     go_wp2_with fail
     refine ⟨⟨j + 1, ?_, hlt, G4⟩, ?_⟩
     · first | rfl | rw [next_wY hlt hlen] | go_num
     · first | exact next_mY hlt | (rw [next_wY hlt hlen]; exact next_mY hlt)
   · have hj1 : ¬ (j : Int) < (L.length : Int) := fun q => hlt (Int.ofNat_lt.1 q)
     go_wp2_with fail
     go_ret
     exact ⟨rfl, G.out⟩
end Z
end Go.Proofs.YthfphgjjieddjaaGreat


namespace Go.Proofs.YthfphgjjieddjaaGreat
set_option maxRecDepth 100000
set_option maxHeartbeats 40000000
namespace Z
open Go.RowKit
open T (Sep Ob Kp Mf FlIn boxOb)

structure Pr.Ok (P : Pr) : Prop where
 n1 : 1 ≤ P.gates.length ∧ P.gates.length ≤ 16
 nc : P.code.length = P.gates.length
 dp : 0 ≤ P.dep ∧ P.dep ≤ 16
 row : ∀ r ∈ P.code, (1 ≤ r.length ∧ r.length ≤ 400) ∧ ∀ i ∈ r, i.Ok r.length P.gates.length
 gate : ∀ k (h : k < P.gates.length) (h2 : k < P.code.length), P.gates[k].e < P.code[k].length ∧ P.gates[k].a ≤ 7 ∧ P.gates[k].s ≤ 7
structure RwIn (w : World) (ca ga : Option Addr) (P : Pr) : Prop where
 code : ∀ k (h : k < P.code.length), ∃ (b off : Nat) (ra : Option Addr) (rc : Nat), ca = some ⟨b, off, none⟩ ∧ b < w.heap.size ∧ w.cell? ⟨b, off + k, none⟩ = some (.slice ra P.code[k].length rc) ∧ T.EIn 5 Fi.vals w ra P.code[k]
 gate : ∀ k (h : k < P.gates.length), ∃ b off : Nat, ga = some ⟨b, off, none⟩ ∧ b < w.heap.size ∧ w.rangeAt b (off + k * 19) P.gates[k].vals
theorem RwIn.gr {w W : World} {ca ga : Option Addr} {P : Pr} (h : RwIn w ca ga P) (g : Gr w W) : RwIn W ca ga P := by
 refine ⟨fun k hk => ?_, fun k hk => ?_⟩
 · obtain ⟨b, off, ra, rc, e1, e2, e3, e4⟩ := h.code k hk
   exact ⟨b, off, ra, rc, e1, Nat.lt_of_lt_of_le e2 g.below.size, (T.cell_of_block (g.below.block b e2) _).trans e3, e4.below g.below⟩
 · obtain ⟨b, off, e1, e2, e3⟩ := h.gate k hk
   exact ⟨b, off, e1, Nat.lt_of_lt_of_le e2 g.below.size, fun i v q => (T.cell_of_block (g.below.block b e2) _).trans (e3 i v q)⟩
theorem Fg.one (g : Fg) : g.vals.toArray.all (fun x => x.oneCell') = true := by
 rw [Array.all_eq_true_iff_forall_mem]
 intro u hu
 simp only [List.mem_toArray, Fg.vals, List.mem_cons] at hu
 rcases hu with rfl | rfl | rfl | hu
 · rfl
 · rfl
 · rfl
 · exact regs_one g.r u hu
theorem mayBe_ok (P : Pr) (ca ga : Option Addr) (cc gc : Nat) (mem : ByteArray) (w : World) (hP : RwIn w ca ga P) (ok : P.Ok) (hm : mem.size ≤ 65536) :
   Calls Tryz.prog 28 #[.agg #[.slice ca P.code.length cc, .slice ga P.gates.length gc, .string mem, .int .i64 P.dep]] w fun x w' => x = .returned (.bool true) ∧ Gr w w' := by
 have n1 := ok.n1
 have nc := ok.nc
 have dp := ok.dp
 have nci : ((P.code.length : Int) != (P.gates.length : Int)) = false := by simp [nc]
 have hmi : ¬ (65536 : Int) < (mem.size : Int) := by omega
 replace ok := Hz.mk ok
 replace nc := Hz.mk nc
 have hlen : P.gates.length ≤ 1000000 := by omega
 go_enter Tryz.func28, Tryz.ntmps28
 go_upto_region 1 with fail
 refine wp_world (fun W => At W w.heap.size #[.slice ca P.code.length cc, .slice ga P.gates.length gc, .string mem, .int .i64 P.dep] ∧ Gr w W) ⟨At.new w _ _, (Gr.refl _).alloc _⟩ ?_
 rintro W ⟨hA, G⟩
 replace hP := Hz.mk (hP.gr G)
 generalize w.heap.size = kp at *
 have c0 : W.cell? ⟨kp, 0, none⟩ = some (.slice ca P.code.length cc) := hA.2.1 0
 have c1 : W.cell? ⟨kp, 1, none⟩ = some (.slice ga P.gates.length gc) := hA.2.1 1
 have c2 : W.cell? ⟨kp, 2, none⟩ = some (.string mem) := hA.2.1 2
 have c3 : W.cell? ⟨kp, 3, none⟩ = some (.int .i64 P.dep) := hA.2.1 3
 replace hA := Hz.mk hA
 go_wp2_with fail
 refine (isWithin_ok _ _ _ _ (by omega) (by omega)).mono ?_
 rintro r w1 ⟨rfl, e1⟩
 subst e1
 go_wp2_with fail
 refine (isWithin_ok _ _ _ _ (by omega) (by omega)).mono ?_
 rintro r w2 ⟨rfl, e1⟩
 subst e1
 go_upto_region 6 with fail
 clear c0 c1 c2 c3
 go_loopw [32] (fun x wr => ∃ k : Nat, x = .int .i64 k ∧ k ≤ P.gates.length ∧ Hz (Gr w2 wr)) (fun x _ => P.gates.length - (intOf x).toNat)
 case atStart => exact ⟨0, rfl, Nat.zero_le _, Hz.mk (Gr.refl _)⟩
 case round =>
   obtain ⟨k, rfl, hk, G2⟩ := hrel
   by_cases hlt : k < P.gates.length
   · have hk1 : (k : Int) < (P.gates.length : Int) := Int.ofNat_lt.2 hlt
     have hkc : k < P.code.length := by rw [nc.out]; exact hlt
     have hk2 : (k : Int) < (P.code.length : Int) := Int.ofNat_lt.2 hkc
     have hrow := ok.out.row _ (List.getElem_mem hkc)
     have hga := ok.out.gate k hlt hkc
     obtain ⟨gb, goff, rfl, hgb, hgr⟩ := (hP.out.gr G2.out).gate k hlt
     go_upto_region 7 with fail
     refine wp_region_lit ?_
     iterate 2 (refine wpList_plain rfl (fun K hK => ?_); go_simp; with_reducible refine hK _ _ ?_; clear hK K; (try simp only [xap]))
     refine wpList_plain rfl (fun K hK => ?_)
     refine wp_load_mid _ _ rfl _ (goff + k * 19) rfl P.gates[k].vals _ hgr Tryz.underlying83 rfl (by rw [Fg.len]; kernel_rfl) (hK _ _ ?_)
     clear hK K
     try simp only [xap]
     refine wpList_plain rfl (fun K hK => ?_)
     go_simp
     with_reducible refine hK _ _ ?_
     clear hK K
     try simp only [xap]
     have hA7 : At (wr.alloc (.cells (List.toArray [Value.int .i64 0, .int .i64 0, .int .i64 0, .int .u64 0, .int .u64 0, .int .u64 0, .int .u64 0, .int .u64 0, .int .u64 0, .int .u64 0, .int .u64 0, .int .u64 0, .int .u64 0, .int .u64 0, .int .u64 0, .int .u64 0, .int .u64 0, .int .u64 0, .int .u64 0]) 83)) wr.heap.size (List.toArray [Value.int .i64 0, .int .i64 0, .int .i64 0, .int .u64 0, .int .u64 0, .int .u64 0, .int .u64 0, .int .u64 0, .int .u64 0, .int .u64 0, .int .u64 0, .int .u64 0, .int .u64 0, .int .u64 0, .int .u64 0, .int .u64 0, .int .u64 0, .int .u64 0, .int .u64 0]) := At.new wr _ _
     have hth := Hz.mk (At.there hA7 0 19 (by decide))
     have hA8 := Hz.mk (At.setAll hA7 P.gates[k].vals (by rw [Fg.len]; rfl))
     have g8 := Hz.mk (Gr.setCells ((Gr.refl wr).alloc (.cells (List.toArray [Value.int .i64 0, .int .i64 0, .int .i64 0, .int .u64 0, .int .u64 0, .int .u64 0, .int .u64 0, .int .u64 0, .int .u64 0, .int .u64 0, .int .u64 0, .int .u64 0, .int .u64 0, .int .u64 0, .int .u64 0, .int .u64 0, .int .u64 0, .int .u64 0, .int .u64 0]) 83)) wr.heap.size (Nat.le_refl _) P.gates[k].vals 0)
     rw [← Fg.len P.gates[k]] at hth
     clear hA7
     refine wpList_plain rfl (fun K hK => ?_)
     go_simp
     with_reducible refine hK _ _ ?_
     clear hK K
     try simp only [xap]
     refine wpList_plain rfl (fun K hK => ?_)
     refine wp_store_mid _ _ _ rfl _ _ (List.toArray P.gates[k].vals) rfl rfl (by simpa using hth.out) (by rw [List.size_toArray, Fg.len]; kernel_rfl) (Fg.one _) (hK _ _ ?_)
     clear hK K
     try simp only [Act.put]
     generalize World.setCells _ _ _ _ = V at *
     have hA9 := hA8
     have G3 := Hz.mk (G2.out.trans g8.out)
     clear hA8 g8 hth hgr hgb
     generalize wr.heap.size = kg at *
     clear G2
     have hAp := Hz.mk (hA.out.gr G3.out)
     obtain ⟨b, off, ra, rc, e9, hb9, hcc, hE⟩ := (hP.out.gr G3.out).code k hkc
     subst e9
     replace hE := Hz.mk hE
     have KS : Hz (∀ U, Gr V U → U.cell? ⟨kp, 0, none⟩ = some (.slice (some ⟨b, off, none⟩) P.code.length cc) ∧ U.cell? ⟨kp, 1, none⟩ = some (.slice (some ⟨gb, goff, none⟩) P.gates.length gc) ∧ U.cell? ⟨b, off + k, none⟩ = some (.slice ra P.code[k].length rc) ∧ U.rangeAt kg 0 P.gates[k].vals) := Hz.mk (fun U g => ⟨(hAp.out.gr g).2.1 0, (hAp.out.gr g).2.1 1, (T.cell_of_block (g.below.block b hb9) _).trans hcc, (hA9.out.gr g).range⟩)
     have g0 : Gr V V.drew := (Gr.refl V).drew
     clear hb9 hcc
     go_upto_region 8 with fail
     refine wp_region_held_drew (S := (fun W => W.cell? ⟨kp, 0, none⟩ = some (.slice (some ⟨b, off, none⟩) P.code.length cc) ∧ W.cell? ⟨kp, 1, none⟩ = some (.slice (some ⟨gb, goff, none⟩) P.gates.length gc) ∧ W.cell? ⟨b, off + k, none⟩ = some (.slice ra P.code[k].length rc) ∧ W.rangeAt kg 0 P.gates[k].vals)) (by kernel_rfl) (KS.out _ g0) (fun hHeld => ?_)
     refine xso 0 ?_ rfl ?_ (xso 1 ?_ rfl ?_ (xso 2 ?_ rfl ?_ (xso 3 ?_ rfl ?_ (xso 4 ?_ rfl ?_ (xso 5 ?_ rfl ?_ (xso 6 ?_ rfl ?_ (xso 7 ?_ rfl ?_ ?_)))))))
     iterate 8 (rotate_left; focus ((try simp only [xap]); intro w hSw; (try dsimp only at hSw); go_simp; first | done | with_reducible rfl))
     try simp only [xap]
     refine xrd 8 rfl (fun K hK => ?_)
     go_simp
     go_wp2_with (refine (row_ok P.code[k] ra rc P.gates.length _ (hE.out.below g0.below) hrow.1 (by omega) hrow.2).mono ?_; rintro r U1 ⟨rfl, gg⟩; have g1 := g0.trans gg; clear gg g0 hHeld)
     refine hK.out _ _ (KS.out _ g1) (fun hHeld => ?_)
     clear hK K
     try simp only [xap]
     refine xso 9 ?_ rfl ?_ (xso 10 ?_ rfl ?_ ?_)
     iterate 2 (rotate_left; focus ((try simp only [xap]); intro w hSw; (try dsimp only at hSw); go_simp; first | done | with_reducible rfl))
     try simp only [xap]
     refine xtk 11 rfl (yieldsIf_load_mid (by rfl) _ _ rfl _ _ rfl _ _ (fun _ h => h.2.2.2) Tryz.underlying83 rfl (by rw [Fg.len]; kernel_rfl)) ?_
     try simp only [xap]
     refine xso 12 ?_ rfl ?_ ?_
     rotate_left
     · intro w hSw; (try dsimp only at hSw); go_simp; first | done | with_reducible rfl
     try simp only [xap]
     refine xso 13 ?_ rfl ?_ ?_
     rotate_left
     · intro w hSw; (try dsimp only at hSw); go_simp; first | done | with_reducible rfl
     try simp only [xap]
     refine xso 14 ?_ rfl ?_ ?_
     rotate_left
     · intro w hSw; (try dsimp only at hSw); go_simp; first | done | with_reducible rfl
     try simp only [xap]
     refine xso 15 ?_ rfl ?_ ?_
     rotate_left
     · intro w hSw; (try dsimp only at hSw); go_simp; first | done | with_reducible rfl
     try simp only [xap]
     refine xso 16 ?_ rfl ?_ ?_
     rotate_left
     · intro w hSw; (try dsimp only at hSw); go_simp; first | done | with_reducible rfl
     try simp only [xap]
     refine xso 17 ?_ rfl ?_ ?_
     rotate_left
     · intro w hSw; (try dsimp only at hSw); go_simp; first | done | with_reducible rfl
     try simp only [xap]
     refine xrd 18 rfl (fun K hK => ?_)
     go_simp
     go_wp2_with (refine (gate_ok P.gates[k] P.code[k].length _ hga.1 hga.2.1 hga.2.2 (by omega)).mono ?_; rintro r U2 ⟨rfl, gg⟩; have g2 := g1.trans gg; clear gg g1 hHeld)
     refine hK.out _ _ (KS.out _ g2) (fun hHeld => ?_)
     clear hK K
     try simp only [xap]
     refine xso 19 ?_ rfl ?_ (xso 20 ?_ rfl ?_ ?_)
     iterate 2 (rotate_left; focus ((try simp only [xap]); intro w hSw; (try dsimp only at hSw); go_simp; first | done | with_reducible rfl))
     try simp only [xap]
     refine xdn ?_ _
     clear hHeld KS
     have G4 := Hz.mk (G3.out.trans g2)
     clear G3 g2 hE hAp hA9
     go_wp2_with fail
     refine ⟨⟨k + 1, ?_, hlt, G4⟩, ?_⟩
     · first | rfl | rw [next_wY hlt hlen] | go_num
     · first | exact next_mY hlt | (rw [next_wY hlt hlen]; exact next_mY hlt)
   · have hk1 : ¬ (k : Int) < (P.gates.length : Int) := fun q => hlt (Int.ofNat_lt.1 q)
     go_wp2_with fail
     go_ret
     exact ⟨rfl, G.trans G2.out⟩
end Z
end Go.Proofs.YthfphgjjieddjaaGreat


namespace Go.Proofs.YthfphgjjieddjaaGreat
set_option maxRecDepth 100000
set_option maxHeartbeats 40000000
namespace Z
open Go.RowKit
open T (Sep Ob Kp Mf FlIn boxOb)

theorem m0_any (ia ib ic : Nat) (im : Int) (w : World) :
   Calls Tryz.prog 61 #[.agg #[.int .u8 0, .int .i64 ia, .int .i64 ib, .int .i64 ic, .int .u64 im]] w fun x w' => x = .returned (methV ⟨0, ia, ib, ic, im⟩) ∧ Gr w w' := by
 go_enter Tryz.func61, Tryz.ntmps61
 go_wp2_with fail
 go_ret
 exact ⟨rfl, (Gr.refl w).alloc _⟩
theorem m1_any (ia ib ic : Nat) (im : Int) (w : World) :
   Calls Tryz.prog 61 #[.agg #[.int .u8 1, .int .i64 ia, .int .i64 ib, .int .i64 ic, .int .u64 im]] w fun x w' => x = .returned (methV ⟨1, ia, ib, ic, im⟩) ∧ Gr w w' := by
 go_enter Tryz.func61, Tryz.ntmps61
 go_wp2_with fail
 go_ret
 exact ⟨rfl, (Gr.refl w).alloc _⟩
theorem m2_any (ia ib ic : Nat) (im : Int) (w : World) :
   Calls Tryz.prog 61 #[.agg #[.int .u8 2, .int .i64 ia, .int .i64 ib, .int .i64 ic, .int .u64 im]] w fun x w' => x = .returned (methV ⟨2, ia, ib, ic, im⟩) ∧ Gr w w' := by
 go_enter Tryz.func61, Tryz.ntmps61
 go_wp2_with fail
 go_ret
 exact ⟨rfl, (Gr.refl w).alloc _⟩
theorem m3_any (ia ib ic : Nat) (im : Int) (w : World) :
   Calls Tryz.prog 61 #[.agg #[.int .u8 3, .int .i64 ia, .int .i64 ib, .int .i64 ic, .int .u64 im]] w fun x w' => x = .returned (methV ⟨3, ia, ib, ic, im⟩) ∧ Gr w w' := by
 go_enter Tryz.func61, Tryz.ntmps61
 go_wp2_with fail
 go_ret
 exact ⟨rfl, (Gr.refl w).alloc _⟩
theorem m4_any (ia ib ic : Nat) (im : Int) (w : World) :
   Calls Tryz.prog 61 #[.agg #[.int .u8 4, .int .i64 ia, .int .i64 ib, .int .i64 ic, .int .u64 im]] w fun x w' => x = .returned (methV ⟨4, ia, ib, ic, im⟩) ∧ Gr w w' := by
 go_enter Tryz.func61, Tryz.ntmps61
 go_wp2_with fail
 go_ret
 exact ⟨rfl, (Gr.refl w).alloc _⟩
theorem m5_any (ia ib ic : Nat) (im : Int) (w : World) :
   Calls Tryz.prog 61 #[.agg #[.int .u8 5, .int .i64 ia, .int .i64 ib, .int .i64 ic, .int .u64 im]] w fun x w' => x = .returned (methV ⟨5, ia, ib, ic, im⟩) ∧ Gr w w' := by
 go_enter Tryz.func61, Tryz.ntmps61
 go_wp2_with fail
 go_ret
 exact ⟨rfl, (Gr.refl w).alloc _⟩
theorem m6_any (ia ib ic : Nat) (im : Int) (w : World) :
   Calls Tryz.prog 61 #[.agg #[.int .u8 6, .int .i64 ia, .int .i64 ib, .int .i64 ic, .int .u64 im]] w fun x w' => x = .returned (methV ⟨6, ia, ib, ic, im⟩) ∧ Gr w w' := by
 go_enter Tryz.func61, Tryz.ntmps61
 go_wp2_with fail
 go_ret
 exact ⟨rfl, (Gr.refl w).alloc _⟩
theorem m7_any (ia ib ic : Nat) (im : Int) (w : World) :
   Calls Tryz.prog 61 #[.agg #[.int .u8 7, .int .i64 ia, .int .i64 ib, .int .i64 ic, .int .u64 im]] w fun x w' => x = .returned (methV ⟨7, ia, ib, ic, im⟩) ∧ Gr w w' := by
 go_enter Tryz.func61, Tryz.ntmps61
 go_wp2_with fail
 go_ret
 exact ⟨rfl, (Gr.refl w).alloc _⟩
theorem m8_any (ia ib ic : Nat) (im : Int) (w : World) :
   Calls Tryz.prog 61 #[.agg #[.int .u8 8, .int .i64 ia, .int .i64 ib, .int .i64 ic, .int .u64 im]] w fun x w' => x = .returned (methV ⟨8, ia, ib, ic, im⟩) ∧ Gr w w' := by
 go_enter Tryz.func61, Tryz.ntmps61
 go_wp2_with fail
 go_ret
 exact ⟨rfl, (Gr.refl w).alloc _⟩
theorem m9_any (ia ib ic : Nat) (im : Int) (w : World) :
   Calls Tryz.prog 61 #[.agg #[.int .u8 9, .int .i64 ia, .int .i64 ib, .int .i64 ic, .int .u64 im]] w fun x w' => x = .returned (methV ⟨9, ia, ib, ic, im⟩) ∧ Gr w w' := by
 go_enter Tryz.func61, Tryz.ntmps61
 go_wp2_with fail
 go_ret
 exact ⟨rfl, (Gr.refl w).alloc _⟩
theorem m10_any (ia ib ic : Nat) (im : Int) (w : World) :
   Calls Tryz.prog 61 #[.agg #[.int .u8 10, .int .i64 ia, .int .i64 ib, .int .i64 ic, .int .u64 im]] w fun x w' => x = .returned (methV ⟨10, ia, ib, ic, im⟩) ∧ Gr w w' := by
 go_enter Tryz.func61, Tryz.ntmps61
 go_wp2_with fail
 go_ret
 exact ⟨rfl, (Gr.refl w).alloc _⟩
theorem m11_any (ia ib ic : Nat) (im : Int) (w : World) :
   Calls Tryz.prog 61 #[.agg #[.int .u8 11, .int .i64 ia, .int .i64 ib, .int .i64 ic, .int .u64 im]] w fun x w' => x = .returned (methV ⟨11, ia, ib, ic, im⟩) ∧ Gr w w' := by
 go_enter Tryz.func61, Tryz.ntmps61
 go_wp2_with fail
 go_ret
 exact ⟨rfl, (Gr.refl w).alloc _⟩
theorem m12_any (ia ib ic : Nat) (im : Int) (w : World) :
   Calls Tryz.prog 61 #[.agg #[.int .u8 12, .int .i64 ia, .int .i64 ib, .int .i64 ic, .int .u64 im]] w fun x w' => x = .returned (methV ⟨12, ia, ib, ic, im⟩) ∧ Gr w w' := by
 go_enter Tryz.func61, Tryz.ntmps61
 go_wp2_with fail
 go_ret
 exact ⟨rfl, (Gr.refl w).alloc _⟩
theorem m13_any (ia ib ic : Nat) (im : Int) (w : World) :
   Calls Tryz.prog 61 #[.agg #[.int .u8 13, .int .i64 ia, .int .i64 ib, .int .i64 ic, .int .u64 im]] w fun x w' => x = .returned (methV ⟨13, ia, ib, ic, im⟩) ∧ Gr w w' := by
 go_enter Tryz.func61, Tryz.ntmps61
 go_wp2_with fail
 go_ret
 exact ⟨rfl, (Gr.refl w).alloc _⟩
theorem m20_any (ia ib ic : Nat) (im : Int) (w : World) :
   Calls Tryz.prog 62 #[.agg #[.int .u8 20, .int .i64 ia, .int .i64 ib, .int .i64 ic, .int .u64 im]] w fun x w' => x = .returned (methV ⟨20, ia, ib, ic, im⟩) ∧ Gr w w' := by
 go_enter Tryz.func62, Tryz.ntmps62
 go_wp2_with fail
 go_ret
 exact ⟨rfl, (Gr.refl w).alloc _⟩
theorem m21_any (ia ib ic : Nat) (im : Int) (w : World) :
   Calls Tryz.prog 62 #[.agg #[.int .u8 21, .int .i64 ia, .int .i64 ib, .int .i64 ic, .int .u64 im]] w fun x w' => x = .returned (methV ⟨21, ia, ib, ic, im⟩) ∧ Gr w w' := by
 go_enter Tryz.func62, Tryz.ntmps62
 go_wp2_with fail
 go_ret
 exact ⟨rfl, (Gr.refl w).alloc _⟩
theorem m22_any (ia ib ic : Nat) (im : Int) (w : World) :
   Calls Tryz.prog 62 #[.agg #[.int .u8 22, .int .i64 ia, .int .i64 ib, .int .i64 ic, .int .u64 im]] w fun x w' => x = .returned (methV ⟨22, ia, ib, ic, im⟩) ∧ Gr w w' := by
 go_enter Tryz.func62, Tryz.ntmps62
 go_wp2_with fail
 go_ret
 exact ⟨rfl, (Gr.refl w).alloc _⟩
theorem m23_any (ia ib ic : Nat) (im : Int) (w : World) :
   Calls Tryz.prog 62 #[.agg #[.int .u8 23, .int .i64 ia, .int .i64 ib, .int .i64 ic, .int .u64 im]] w fun x w' => x = .returned (methV ⟨23, ia, ib, ic, im⟩) ∧ Gr w w' := by
 go_enter Tryz.func62, Tryz.ntmps62
 go_wp2_with fail
 go_ret
 exact ⟨rfl, (Gr.refl w).alloc _⟩
theorem m24_any (ia ib ic : Nat) (im : Int) (w : World) :
   Calls Tryz.prog 62 #[.agg #[.int .u8 24, .int .i64 ia, .int .i64 ib, .int .i64 ic, .int .u64 im]] w fun x w' => x = .returned (methV ⟨24, ia, ib, ic, im⟩) ∧ Gr w w' := by
 go_enter Tryz.func62, Tryz.ntmps62
 go_wp2_with fail
 go_ret
 exact ⟨rfl, (Gr.refl w).alloc _⟩
theorem m27_any (ia ib ic : Nat) (im : Int) (w : World) :
   Calls Tryz.prog 62 #[.agg #[.int .u8 27, .int .i64 ia, .int .i64 ib, .int .i64 ic, .int .u64 im]] w fun x w' => x = .returned (methV ⟨27, ia, ib, ic, im⟩) ∧ Gr w w' := by
 go_enter Tryz.func62, Tryz.ntmps62
 go_wp2_with fail
 go_ret
 exact ⟨rfl, (Gr.refl w).alloc _⟩
theorem m28_any (ia ib ic : Nat) (im : Int) (w : World) :
   Calls Tryz.prog 62 #[.agg #[.int .u8 28, .int .i64 ia, .int .i64 ib, .int .i64 ic, .int .u64 im]] w fun x w' => x = .returned (methV ⟨28, ia, ib, ic, im⟩) ∧ Gr w w' := by
 go_enter Tryz.func62, Tryz.ntmps62
 go_wp2_with fail
 go_ret
 exact ⟨rfl, (Gr.refl w).alloc _⟩
theorem m29_any (ia ib ic : Nat) (im : Int) (w : World) :
   Calls Tryz.prog 62 #[.agg #[.int .u8 29, .int .i64 ia, .int .i64 ib, .int .i64 ic, .int .u64 im]] w fun x w' => x = .returned (methV ⟨29, ia, ib, ic, im⟩) ∧ Gr w w' := by
 go_enter Tryz.func62, Tryz.ntmps62
 go_wp2_with fail
 go_ret
 exact ⟨rfl, (Gr.refl w).alloc _⟩
theorem m30_any (ia ib ic : Nat) (im : Int) (w : World) :
   Calls Tryz.prog 62 #[.agg #[.int .u8 30, .int .i64 ia, .int .i64 ib, .int .i64 ic, .int .u64 im]] w fun x w' => x = .returned (methV ⟨30, ia, ib, ic, im⟩) ∧ Gr w w' := by
 go_enter Tryz.func62, Tryz.ntmps62
 go_wp2_with fail
 go_ret
 exact ⟨rfl, (Gr.refl w).alloc _⟩
theorem m31_any (ia ib ic : Nat) (im : Int) (w : World) :
   Calls Tryz.prog 62 #[.agg #[.int .u8 31, .int .i64 ia, .int .i64 ib, .int .i64 ic, .int .u64 im]] w fun x w' => x = .returned (methV ⟨31, ia, ib, ic, im⟩) ∧ Gr w w' := by
 go_enter Tryz.func62, Tryz.ntmps62
 go_wp2_with fail
 go_ret
 exact ⟨rfl, (Gr.refl w).alloc _⟩
theorem m32_any (ia ib ic : Nat) (im : Int) (w : World) :
   Calls Tryz.prog 62 #[.agg #[.int .u8 32, .int .i64 ia, .int .i64 ib, .int .i64 ic, .int .u64 im]] w fun x w' => x = .returned (methV ⟨32, ia, ib, ic, im⟩) ∧ Gr w w' := by
 go_enter Tryz.func62, Tryz.ntmps62
 go_wp2_with fail
 go_ret
 exact ⟨rfl, (Gr.refl w).alloc _⟩
theorem m60_any (ia ib ic : Nat) (im : Int) (w : World) :
   Calls Tryz.prog 63 #[.agg #[.int .u8 60, .int .i64 ia, .int .i64 ib, .int .i64 ic, .int .u64 im]] w fun x w' => x = .returned (methV ⟨60, ia, ib, ic, im⟩) ∧ Gr w w' := by
 go_enter Tryz.func63, Tryz.ntmps63
 go_wp2_with fail
 go_ret
 exact ⟨rfl, (Gr.refl w).alloc _⟩
theorem m61_any (ia ib ic : Nat) (im : Int) (w : World) :
   Calls Tryz.prog 63 #[.agg #[.int .u8 61, .int .i64 ia, .int .i64 ib, .int .i64 ic, .int .u64 im]] w fun x w' => x = .returned (methV ⟨61, ia, ib, ic, im⟩) ∧ Gr w w' := by
 go_enter Tryz.func63, Tryz.ntmps63
 go_wp2_with fail
 go_ret
 exact ⟨rfl, (Gr.refl w).alloc _⟩
theorem m62_any (ia ib ic : Nat) (im : Int) (w : World) :
   Calls Tryz.prog 63 #[.agg #[.int .u8 62, .int .i64 ia, .int .i64 ib, .int .i64 ic, .int .u64 im]] w fun x w' => x = .returned (methV ⟨62, ia, ib, ic, im⟩) ∧ Gr w w' := by
 go_enter Tryz.func63, Tryz.ntmps63
 go_wp2_with fail
 go_ret
 exact ⟨rfl, (Gr.refl w).alloc _⟩
theorem m63_any (ia ib ic : Nat) (im : Int) (w : World) :
   Calls Tryz.prog 63 #[.agg #[.int .u8 63, .int .i64 ia, .int .i64 ib, .int .i64 ic, .int .u64 im]] w fun x w' => x = .returned (methV ⟨63, ia, ib, ic, im⟩) ∧ Gr w w' := by
 go_enter Tryz.func63, Tryz.ntmps63
 go_wp2_with fail
 go_ret
 exact ⟨rfl, (Gr.refl w).alloc _⟩
theorem m64_any (ia ib ic : Nat) (im : Int) (w : World) :
   Calls Tryz.prog 63 #[.agg #[.int .u8 64, .int .i64 ia, .int .i64 ib, .int .i64 ic, .int .u64 im]] w fun x w' => x = .returned (methV ⟨64, ia, ib, ic, im⟩) ∧ Gr w w' := by
 go_enter Tryz.func63, Tryz.ntmps63
 go_wp2_with fail
 go_ret
 exact ⟨rfl, (Gr.refl w).alloc _⟩
theorem m65_any (ia ib ic : Nat) (im : Int) (w : World) :
   Calls Tryz.prog 63 #[.agg #[.int .u8 65, .int .i64 ia, .int .i64 ib, .int .i64 ic, .int .u64 im]] w fun x w' => x = .returned (methV ⟨65, ia, ib, ic, im⟩) ∧ Gr w w' := by
 go_enter Tryz.func63, Tryz.ntmps63
 go_wp2_with fail
 go_ret
 exact ⟨rfl, (Gr.refl w).alloc _⟩
theorem m70_any (ia ib ic : Nat) (im : Int) (w : World) :
   Calls Tryz.prog 64 #[.agg #[.int .u8 70, .int .i64 ia, .int .i64 ib, .int .i64 ic, .int .u64 im]] w fun x w' => x = .returned (methV ⟨70, ia, ib, ic, im⟩) ∧ Gr w w' := by
 go_enter Tryz.func64, Tryz.ntmps64
 go_wp2_with fail
 go_ret
 exact ⟨rfl, (Gr.refl w).alloc _⟩
theorem m71_any (ia ib ic : Nat) (im : Int) (w : World) :
   Calls Tryz.prog 64 #[.agg #[.int .u8 71, .int .i64 ia, .int .i64 ib, .int .i64 ic, .int .u64 im]] w fun x w' => x = .returned (methV ⟨71, ia, ib, ic, im⟩) ∧ Gr w w' := by
 go_enter Tryz.func64, Tryz.ntmps64
 go_wp2_with fail
 go_ret
 exact ⟨rfl, (Gr.refl w).alloc _⟩
theorem m72_any (ia ib ic : Nat) (im : Int) (w : World) :
   Calls Tryz.prog 64 #[.agg #[.int .u8 72, .int .i64 ia, .int .i64 ib, .int .i64 ic, .int .u64 im]] w fun x w' => x = .returned (methV ⟨72, ia, ib, ic, im⟩) ∧ Gr w w' := by
 go_enter Tryz.func64, Tryz.ntmps64
 go_wp2_with fail
 go_ret
 exact ⟨rfl, (Gr.refl w).alloc _⟩
theorem method_ok (i : Fi) (w : World) (h : Named i.op) :
   Calls Tryz.prog 46 #[.agg #[.int .u8 i.op, .int .i64 i.a, .int .i64 i.b, .int .i64 i.c, .int .u64 i.i]] w fun x w' => x = .returned (methV i) ∧ Gr w w' := by
 obtain ⟨op, ia, ib, ic, im⟩ := i
 dsimp only at *
 have hc : op = 0 ∨ op = 1 ∨ op = 2 ∨ op = 3 ∨ op = 4 ∨ op = 5 ∨ op = 6 ∨ op = 7 ∨ op = 8 ∨ op = 9 ∨ op = 10 ∨ op = 11 ∨ op = 12 ∨ op = 13 ∨ op = 20 ∨ op = 21 ∨ op = 22 ∨ op = 23 ∨ op = 24 ∨ op = 27 ∨ op = 28 ∨ op = 29 ∨ op = 30 ∨ op = 31 ∨ op = 32 ∨ op = 60 ∨ op = 61 ∨ op = 62 ∨ op = 63 ∨ op = 64 ∨ op = 65 ∨ op = 70 ∨ op = 71 ∨ op = 72 := by unfold Named at h; omega
 clear h
 rcases hc with rfl | rfl | rfl | rfl | rfl | rfl | rfl | rfl | rfl | rfl | rfl | rfl | rfl | rfl | rfl | rfl | rfl | rfl | rfl | rfl | rfl | rfl | rfl | rfl | rfl | rfl | rfl | rfl | rfl | rfl | rfl | rfl | rfl | rfl
 · go_enter Tryz.func46, Tryz.ntmps46
   go_wp2_with fail
   refine (m0_any ia ib ic im _).mono ?_
   rintro r w1 ⟨rfl, g1⟩
   go_wp2_with fail
   go_ret
   exact ⟨rfl, ((Gr.refl w).alloc _).trans g1⟩
 · go_enter Tryz.func46, Tryz.ntmps46
   go_wp2_with fail
   refine (m1_any ia ib ic im _).mono ?_
   rintro r w1 ⟨rfl, g1⟩
   go_wp2_with fail
   go_ret
   exact ⟨rfl, ((Gr.refl w).alloc _).trans g1⟩
 · go_enter Tryz.func46, Tryz.ntmps46
   go_wp2_with fail
   refine (m2_any ia ib ic im _).mono ?_
   rintro r w1 ⟨rfl, g1⟩
   go_wp2_with fail
   go_ret
   exact ⟨rfl, ((Gr.refl w).alloc _).trans g1⟩
 · go_enter Tryz.func46, Tryz.ntmps46
   go_wp2_with fail
   refine (m3_any ia ib ic im _).mono ?_
   rintro r w1 ⟨rfl, g1⟩
   go_wp2_with fail
   go_ret
   exact ⟨rfl, ((Gr.refl w).alloc _).trans g1⟩
 · go_enter Tryz.func46, Tryz.ntmps46
   go_wp2_with fail
   refine (m4_any ia ib ic im _).mono ?_
   rintro r w1 ⟨rfl, g1⟩
   go_wp2_with fail
   go_ret
   exact ⟨rfl, ((Gr.refl w).alloc _).trans g1⟩
 · go_enter Tryz.func46, Tryz.ntmps46
   go_wp2_with fail
   refine (m5_any ia ib ic im _).mono ?_
   rintro r w1 ⟨rfl, g1⟩
   go_wp2_with fail
   go_ret
   exact ⟨rfl, ((Gr.refl w).alloc _).trans g1⟩
 · go_enter Tryz.func46, Tryz.ntmps46
   go_wp2_with fail
   refine (m6_any ia ib ic im _).mono ?_
   rintro r w1 ⟨rfl, g1⟩
   go_wp2_with fail
   go_ret
   exact ⟨rfl, ((Gr.refl w).alloc _).trans g1⟩
 · go_enter Tryz.func46, Tryz.ntmps46
   go_wp2_with fail
   refine (m7_any ia ib ic im _).mono ?_
   rintro r w1 ⟨rfl, g1⟩
   go_wp2_with fail
   go_ret
   exact ⟨rfl, ((Gr.refl w).alloc _).trans g1⟩
 · go_enter Tryz.func46, Tryz.ntmps46
   go_wp2_with fail
   refine (m8_any ia ib ic im _).mono ?_
   rintro r w1 ⟨rfl, g1⟩
   go_wp2_with fail
   go_ret
   exact ⟨rfl, ((Gr.refl w).alloc _).trans g1⟩
 · go_enter Tryz.func46, Tryz.ntmps46
   go_wp2_with fail
   refine (m9_any ia ib ic im _).mono ?_
   rintro r w1 ⟨rfl, g1⟩
   go_wp2_with fail
   go_ret
   exact ⟨rfl, ((Gr.refl w).alloc _).trans g1⟩
 · go_enter Tryz.func46, Tryz.ntmps46
   go_wp2_with fail
   refine (m10_any ia ib ic im _).mono ?_
   rintro r w1 ⟨rfl, g1⟩
   go_wp2_with fail
   go_ret
   exact ⟨rfl, ((Gr.refl w).alloc _).trans g1⟩
 · go_enter Tryz.func46, Tryz.ntmps46
   go_wp2_with fail
   refine (m11_any ia ib ic im _).mono ?_
   rintro r w1 ⟨rfl, g1⟩
   go_wp2_with fail
   go_ret
   exact ⟨rfl, ((Gr.refl w).alloc _).trans g1⟩
 · go_enter Tryz.func46, Tryz.ntmps46
   go_wp2_with fail
   refine (m12_any ia ib ic im _).mono ?_
   rintro r w1 ⟨rfl, g1⟩
   go_wp2_with fail
   go_ret
   exact ⟨rfl, ((Gr.refl w).alloc _).trans g1⟩
 · go_enter Tryz.func46, Tryz.ntmps46
   go_wp2_with fail
   refine (m13_any ia ib ic im _).mono ?_
   rintro r w1 ⟨rfl, g1⟩
   go_wp2_with fail
   go_ret
   exact ⟨rfl, ((Gr.refl w).alloc _).trans g1⟩
 · go_enter Tryz.func46, Tryz.ntmps46
   go_wp2_with fail
   refine (m20_any ia ib ic im _).mono ?_
   rintro r w1 ⟨rfl, g1⟩
   go_wp2_with fail
   go_ret
   exact ⟨rfl, ((Gr.refl w).alloc _).trans g1⟩
 · go_enter Tryz.func46, Tryz.ntmps46
   go_wp2_with fail
   refine (m21_any ia ib ic im _).mono ?_
   rintro r w1 ⟨rfl, g1⟩
   go_wp2_with fail
   go_ret
   exact ⟨rfl, ((Gr.refl w).alloc _).trans g1⟩
 · go_enter Tryz.func46, Tryz.ntmps46
   go_wp2_with fail
   refine (m22_any ia ib ic im _).mono ?_
   rintro r w1 ⟨rfl, g1⟩
   go_wp2_with fail
   go_ret
   exact ⟨rfl, ((Gr.refl w).alloc _).trans g1⟩
 · go_enter Tryz.func46, Tryz.ntmps46
   go_wp2_with fail
   refine (m23_any ia ib ic im _).mono ?_
   rintro r w1 ⟨rfl, g1⟩
   go_wp2_with fail
   go_ret
   exact ⟨rfl, ((Gr.refl w).alloc _).trans g1⟩
 · go_enter Tryz.func46, Tryz.ntmps46
   go_wp2_with fail
   refine (m24_any ia ib ic im _).mono ?_
   rintro r w1 ⟨rfl, g1⟩
   go_wp2_with fail
   go_ret
   exact ⟨rfl, ((Gr.refl w).alloc _).trans g1⟩
 · go_enter Tryz.func46, Tryz.ntmps46
   go_wp2_with fail
   refine (m27_any ia ib ic im _).mono ?_
   rintro r w1 ⟨rfl, g1⟩
   go_wp2_with fail
   go_ret
   exact ⟨rfl, ((Gr.refl w).alloc _).trans g1⟩
 · go_enter Tryz.func46, Tryz.ntmps46
   go_wp2_with fail
   refine (m28_any ia ib ic im _).mono ?_
   rintro r w1 ⟨rfl, g1⟩
   go_wp2_with fail
   go_ret
   exact ⟨rfl, ((Gr.refl w).alloc _).trans g1⟩
 · go_enter Tryz.func46, Tryz.ntmps46
   go_wp2_with fail
   refine (m29_any ia ib ic im _).mono ?_
   rintro r w1 ⟨rfl, g1⟩
   go_wp2_with fail
   go_ret
   exact ⟨rfl, ((Gr.refl w).alloc _).trans g1⟩
 · go_enter Tryz.func46, Tryz.ntmps46
   go_wp2_with fail
   refine (m30_any ia ib ic im _).mono ?_
   rintro r w1 ⟨rfl, g1⟩
   go_wp2_with fail
   go_ret
   exact ⟨rfl, ((Gr.refl w).alloc _).trans g1⟩
 · go_enter Tryz.func46, Tryz.ntmps46
   go_wp2_with fail
   refine (m31_any ia ib ic im _).mono ?_
   rintro r w1 ⟨rfl, g1⟩
   go_wp2_with fail
   go_ret
   exact ⟨rfl, ((Gr.refl w).alloc _).trans g1⟩
 · go_enter Tryz.func46, Tryz.ntmps46
   go_wp2_with fail
   refine (m32_any ia ib ic im _).mono ?_
   rintro r w1 ⟨rfl, g1⟩
   go_wp2_with fail
   go_ret
   exact ⟨rfl, ((Gr.refl w).alloc _).trans g1⟩
 · go_enter Tryz.func46, Tryz.ntmps46
   go_wp2_with fail
   refine (m60_any ia ib ic im _).mono ?_
   rintro r w1 ⟨rfl, g1⟩
   go_wp2_with fail
   go_ret
   exact ⟨rfl, ((Gr.refl w).alloc _).trans g1⟩
 · go_enter Tryz.func46, Tryz.ntmps46
   go_wp2_with fail
   refine (m61_any ia ib ic im _).mono ?_
   rintro r w1 ⟨rfl, g1⟩
   go_wp2_with fail
   go_ret
   exact ⟨rfl, ((Gr.refl w).alloc _).trans g1⟩
 · go_enter Tryz.func46, Tryz.ntmps46
   go_wp2_with fail
   refine (m62_any ia ib ic im _).mono ?_
   rintro r w1 ⟨rfl, g1⟩
   go_wp2_with fail
   go_ret
   exact ⟨rfl, ((Gr.refl w).alloc _).trans g1⟩
 · go_enter Tryz.func46, Tryz.ntmps46
   go_wp2_with fail
   refine (m63_any ia ib ic im _).mono ?_
   rintro r w1 ⟨rfl, g1⟩
   go_wp2_with fail
   go_ret
   exact ⟨rfl, ((Gr.refl w).alloc _).trans g1⟩
 · go_enter Tryz.func46, Tryz.ntmps46
   go_wp2_with fail
   refine (m64_any ia ib ic im _).mono ?_
   rintro r w1 ⟨rfl, g1⟩
   go_wp2_with fail
   go_ret
   exact ⟨rfl, ((Gr.refl w).alloc _).trans g1⟩
 · go_enter Tryz.func46, Tryz.ntmps46
   go_wp2_with fail
   refine (m65_any ia ib ic im _).mono ?_
   rintro r w1 ⟨rfl, g1⟩
   go_wp2_with fail
   go_ret
   exact ⟨rfl, ((Gr.refl w).alloc _).trans g1⟩
 · go_enter Tryz.func46, Tryz.ntmps46
   go_wp2_with fail
   refine (m70_any ia ib ic im _).mono ?_
   rintro r w1 ⟨rfl, g1⟩
   go_wp2_with fail
   go_ret
   exact ⟨rfl, ((Gr.refl w).alloc _).trans g1⟩
 · go_enter Tryz.func46, Tryz.ntmps46
   go_wp2_with fail
   refine (m71_any ia ib ic im _).mono ?_
   rintro r w1 ⟨rfl, g1⟩
   go_wp2_with fail
   go_ret
   exact ⟨rfl, ((Gr.refl w).alloc _).trans g1⟩
 · go_enter Tryz.func46, Tryz.ntmps46
   go_wp2_with fail
   refine (m72_any ia ib ic im _).mono ?_
   rintro r w1 ⟨rfl, g1⟩
   go_wp2_with fail
   go_ret
   exact ⟨rfl, ((Gr.refl w).alloc _).trans g1⟩
end Z
end Go.Proofs.YthfphgjjieddjaaGreat
