import Derived.Test.YthfphgjjieddjaaGreatP29
import Derived.Test.YthfphgjjieddjaaGreatP19
import Derived.Test.YthfphgjjieddjaaGreatZNew
import Derived.Test.YthfphgjjieddjaaGreatP21
namespace Go.Proofs.YthfphgjjieddjaaGreat
set_option maxRecDepth 100000
set_option maxHeartbeats 40000000
namespace Z
open Go.RowKit
open T (Sep Ob Kp Mf FlIn boxOb)

structure Rg where
 e : Int
 a : Int
 s : Int
 r : Nat → Int
def Rg.vals (g : Rg) : List Value := .int .i64 g.e :: .int .i64 g.a :: .int .i64 g.s :: regs g.r
theorem Rg.len (g : Rg) : g.vals.length = 19 := by simp [Rg.vals, regs_len]
def Rg.Ok (g : Rg) (n : Nat) : Prop := (0 ≤ g.e ∧ g.e ≤ (n : Int) - 1) ∧ (0 ≤ g.a ∧ g.a ≤ 7) ∧ 0 ≤ g.s ∧ g.s ≤ 7
def Rg.fg (g : Rg) : Fg := ⟨g.e.toNat, g.a.toNat, g.s.toNat, g.r⟩
theorem Rg.Ok.vals {g : Rg} {n : Nat} (h : g.Ok n) : g.fg.vals = g.vals := by
 obtain ⟨h1, h2, h3⟩ := h
 show Value.int .i64 (g.e.toNat : Int) :: Value.int .i64 (g.a.toNat : Int) :: Value.int .i64 (g.s.toNat : Int) :: regs g.r = _
 rw [Int.toNat_of_nonneg h1.1, Int.toNat_of_nonneg h2.1, Int.toNat_of_nonneg h3.1]
 rfl
def RowOk (L : List Ri) (k : Nat) : Prop := (1 ≤ L.length ∧ L.length ≤ 400) ∧ ∀ j (h : j < L.length), L[j].Ok L.length k
theorem rgate_any (g : Rg) (n : Nat) (w : World) (hn : n ≤ 1000) :
   Calls Tryz.prog 45 #[.agg (Rg.vals g).toArray, .int .i64 n] w fun x w' => Says (g.Ok n) x ∧ Gr w w' := by
 have e1 : wrap64 ((n : Int) - 1) = (n : Int) - 1 := by unfold wrap64; omega
 go_enter Tryz.func45, Tryz.ntmps45
 go_upto_region 1 with fail
 refine wp_world (fun W => At W w.heap.size (Rg.vals g).toArray ∧ Gr w W) ⟨At.new w _ _, (Gr.refl _).alloc _⟩ ?_
 rintro W ⟨hA, G⟩
 generalize w.heap.size = kb at *
 have c0 : W.cell? ⟨kb, 0, none⟩ = some (.int .i64 g.e) := hA.2.1 0
 have c1 : W.cell? ⟨kb, 1, none⟩ = some (.int .i64 g.a) := hA.2.1 1
 have c2 : W.cell? ⟨kb, 2, none⟩ = some (.int .i64 g.s) := hA.2.1 2
 replace hA := Hz.mk hA
 by_cases he : 0 ≤ g.e ∧ g.e ≤ (n : Int) - 1
 · by_cases ha : 0 ≤ g.a ∧ g.a ≤ 7
   · by_cases hs : 0 ≤ g.s ∧ g.s ≤ 7
     · skip
       have z : Hz (Says (Rg.Ok g n) (.returned (.bool true))) := Hz.mk ⟨true, rfl, iff_of_true rfl ⟨he, ha, hs⟩⟩
       go_wp2_with fail
       refine (isWithin_ok _ _ _ _ (by omega) (by omega)).mono ?_
       rintro r w1 ⟨rfl, e1⟩
       subst e1
       go_wp2_with fail
       refine (isWithin_ok _ _ _ _ (by omega) (by omega)).mono ?_
       rintro r w1 ⟨rfl, e1⟩
       subst e1
       go_wp2_with fail
       refine (isWithin_ok _ _ _ _ (by omega) (by omega)).mono ?_
       rintro r w1 ⟨rfl, e1⟩
       subst e1
       go_wp2_with fail
       go_ret
       exact ⟨z.out, G⟩
     · skip
       have z : Hz (Says (Rg.Ok g n) (.returned (.bool false))) := Hz.mk ⟨false, rfl, iff_of_false (by decide) (fun q => absurd q.2.2 hs)⟩
       go_wp2_with fail
       refine (isWithin_ok _ _ _ _ (by omega) (by omega)).mono ?_
       rintro r w1 ⟨rfl, e1⟩
       subst e1
       go_wp2_with fail
       refine (isWithin_ok _ _ _ _ (by omega) (by omega)).mono ?_
       rintro r w1 ⟨rfl, e1⟩
       subst e1
       go_wp2_with fail
       refine (isWithin_no _ _ _ _ (by omega)).mono ?_
       rintro r w1 ⟨rfl, e1⟩
       subst e1
       go_wp2_with fail
       go_ret
       exact ⟨z.out, G⟩
   · skip
     have z : Hz (Says (Rg.Ok g n) (.returned (.bool false))) := Hz.mk ⟨false, rfl, iff_of_false (by decide) (fun q => absurd q.2.1 ha)⟩
     go_wp2_with fail
     refine (isWithin_ok _ _ _ _ (by omega) (by omega)).mono ?_
     rintro r w1 ⟨rfl, e1⟩
     subst e1
     go_wp2_with fail
     refine (isWithin_no _ _ _ _ (by omega)).mono ?_
     rintro r w1 ⟨rfl, e1⟩
     subst e1
     go_wp2_with fail
     go_ret
     exact ⟨z.out, G⟩
 · skip
   have z : Hz (Says (Rg.Ok g n) (.returned (.bool false))) := Hz.mk ⟨false, rfl, iff_of_false (by decide) (fun q => absurd q.1 he)⟩
   go_wp2_with fail
   refine (isWithin_no _ _ _ _ (by omega)).mono ?_
   rintro r w1 ⟨rfl, e1⟩
   subst e1
   go_wp2_with fail
   go_ret
   exact ⟨z.out, G⟩
theorem reat5 {w W : World} {a : Option Addr} {L : List Ri} (h : T.EIn 5 Ri.vals w a L) (g : Gr w W) (j : Nat) (hj : j < L.length) : ∃ b off : Nat, a = some ⟨b, off, none⟩ ∧ b < W.heap.size ∧ W.rangeAt b (off + j * 5) L[j].vals := by
 obtain ⟨b, off, e1, e2, e3⟩ := h j hj
 exact ⟨b, off, e1, Nat.lt_of_lt_of_le e2 g.below.size, fun i v q => (T.cell_of_block (g.below.block b e2) _).trans (e3 i v q)⟩
theorem row_any (L : List Ri) (a : Option Addr) (c k : Nat) (w : World) (hL : T.EIn 5 Ri.vals w a L) (his : ∀ i ∈ L, i.Is) (hk : k ≤ 1000) :
   Calls Tryz.prog 44 #[.slice a L.length c, .int .i64 k] w fun x w' => Says (RowOk L k) x ∧ Gr w w' := by
 by_cases hl : 1 ≤ (L.length : Int) ∧ (L.length : Int) ≤ 400
 rotate_left
 · skip
   have z : Hz (Says (RowOk L k) (.returned (.bool false))) := Hz.mk ⟨false, rfl, iff_of_false (by decide) (fun q => absurd q.1 (by omega))⟩
   go_enter Tryz.func44, Tryz.ntmps44
   go_wp2_with fail
   refine (isWithin_no _ _ _ _ hl).mono ?_
   rintro r w1 ⟨rfl, e1⟩
   subst e1
   go_wp2_with fail
   go_ret
   exact ⟨z.out, Gr.refl _⟩
 replace hL := Hz.mk hL
 replace his := Hz.mk his
 have hlen : L.length ≤ 1000000 := by omega
 go_enter Tryz.func44, Tryz.ntmps44
 go_wp2_with fail
 refine (isWithin_ok _ _ _ _ (by omega) (by omega)).mono ?_
 rintro r w1 ⟨rfl, e1⟩
 subst e1
 go_upto_region 4 with fail
 go_loopw [13] (fun x wr => ∃ j : Nat, x = .int .i64 j ∧ j ≤ L.length ∧ Hz (∀ m (h : m < L.length), m < j → L[m].Ok L.length k) ∧ Hz (Gr w1 wr)) (fun x _ => L.length - (intOf x).toNat)
 case atStart => exact ⟨0, rfl, Nat.zero_le _, Hz.mk (fun m h q => absurd q (Nat.not_lt_zero _)), Hz.mk (Gr.refl _)⟩
 case round =>
   obtain ⟨j, rfl, hj, hbe, G⟩ := hrel
   by_cases hlt : j < L.length
   · have hj1 : (j : Int) < (L.length : Int) := Int.ofNat_lt.2 hlt
     obtain ⟨b, off, rfl, hb, hr⟩ := reat5 hL.out G.out j hlt
     have hii := his.out _ (List.getElem_mem hlt)
     obtain ⟨i, hij⟩ : ∃ i, L[j] = i := ⟨_, rfl⟩
     rw [hij] at hr hii
     replace hij := Hz.mk hij
     have c0 : wr.cell? ⟨b, off + j * 5, none⟩ = some (.int .u8 i.op) := hr 0 _ rfl
     have c1 : wr.cell? ⟨b, off + j * 5 + 1, none⟩ = some (.int .i64 i.a) := hr 1 _ rfl
     have c2 : wr.cell? ⟨b, off + j * 5 + 1 + 1, none⟩ = some (.int .i64 i.b) := hr 2 _ rfl
     have c3 : wr.cell? ⟨b, off + j * 5 + 1 + 1 + 1, none⟩ = some (.int .i64 i.c) := hr 3 _ rfl
     have c4 : wr.cell? ⟨b, off + j * 5 + 1 + 1 + 1 + 1, none⟩ = some (.int .u64 i.i) := hr 4 _ rfl
     replace hii := Hz.mk hii
     replace hr := Hz.mk hr
     go_upto_region 6 with fail
     refine wp_world (fun W => At W wr.heap.size #[.int .u8 i.op, .int .i64 i.a, .int .i64 i.b, .int .i64 i.c, .int .u64 i.i] ∧ Gr wr W) ⟨At.new wr _ _, (Gr.refl _).alloc _⟩ ?_
     rintro V ⟨hA, g1⟩
     replace G := Hz.mk (G.out.trans g1)
     generalize wr.heap.size = kb at *
     clear c0 c1 c2 c3 c4 hr hb g1
     have d0 : V.cell? ⟨kb, 0, none⟩ = some (.int .u8 i.op) := hA.2.1 0
     have d1 : V.cell? ⟨kb, 1, none⟩ = some (.int .i64 i.a) := hA.2.1 1
     have d2 : V.cell? ⟨kb, 2, none⟩ = some (.int .i64 i.b) := hA.2.1 2
     have d3 : V.cell? ⟨kb, 3, none⟩ = some (.int .i64 i.c) := hA.2.1 3
     have d4 : V.cell? ⟨kb, 4, none⟩ = some (.int .u64 i.i) := hA.2.1 4
     by_cases hn : Named i.op
     rotate_left
     · skip
       have z : Hz (Says (RowOk L k) (.returned (.bool false))) := Hz.mk ⟨false, rfl, iff_of_false (by decide) (fun q => absurd (hij.out ▸ q.2 j hlt).op hn)⟩
       replace hn := Hz.mk hn
       go_wp2_with fail
       refine (isNamed_no _ _ hii.out.op hn.out).mono ?_
       rintro r V1 ⟨rfl, e1⟩
       subst e1
       go_wp2_with fail
       go_ret
       exact ⟨z.out, G.out⟩
     replace hn := Hz.mk hn
     go_wp2_with fail
     refine (isNamed_ok _ _ hn.out).mono ?_
     rintro r V1 ⟨rfl, e1⟩
     subst e1
     go_wp2_with fail
     refine (fields_any i _).mono ?_
     rintro r V2 ⟨⟨b2, rfl, h2⟩, g2⟩
     cases b2
     · skip
       have z : Hz (Says (RowOk L k) (.returned (.bool false))) := Hz.mk ⟨false, rfl, iff_of_false (by decide) (fun q => absurd (h2.2 (hij.out ▸ q.2 j hlt).fl) (by decide))⟩
       replace G := Hz.mk (G.out.trans g2)
       clear h2 d0 d1 d2 d3 d4 hA g2
       go_wp2_with fail
       go_ret
       exact ⟨z.out, G.out⟩
     replace h2 := Hz.mk (h2.1 rfl)
     have hA2 := hA.gr g2
     clear d0 d1 d2 d3 d4
     have d0 : V2.cell? ⟨kb, 0, none⟩ = some (.int .u8 i.op) := hA2.2.1 0
     have d1 : V2.cell? ⟨kb, 1, none⟩ = some (.int .i64 i.a) := hA2.2.1 1
     have d2 : V2.cell? ⟨kb, 2, none⟩ = some (.int .i64 i.b) := hA2.2.1 2
     have d3 : V2.cell? ⟨kb, 3, none⟩ = some (.int .i64 i.c) := hA2.2.1 3
     have d4 : V2.cell? ⟨kb, 4, none⟩ = some (.int .u64 i.i) := hA2.2.1 4
     go_wp2_with fail
     refine (there_any i L.length k _ ⟨by omega, hk⟩).mono ?_
     rintro r V3 ⟨⟨b3, rfl, h3⟩, g3⟩
     have G4 := Hz.mk ((G.out.trans g2).trans g3)
     clear G g2 g3 hA hA2 d0 d1 d2 d3 d4
     cases b3
     · skip
       have z : Hz (Says (RowOk L k) (.returned (.bool false))) := Hz.mk ⟨false, rfl, iff_of_false (by decide) (fun q => absurd (h3.2 (hij.out ▸ q.2 j hlt).th) (by decide))⟩
       clear h3
       go_wp2_with fail
       go_ret
       exact ⟨z.out, G4.out⟩
     replace h3 := Hz.mk (h3.1 rfl)
     have hbe2 : Hz (∀ m (h : m < L.length), m < j + 1 → L[m].Ok L.length k) := Hz.mk (fun m h q => by
       by_cases e : m < j
       · exact hbe.out m h e
       · obtain rfl : m = j := by omega
         rw [hij.out]
         exact ⟨hn.out, h2.out, h3.out⟩)
     clear hbe h2 h3 hn hij
     go_wp2_with fail
     refine ⟨⟨j + 1, ?_, hlt, hbe2, G4⟩, ?_⟩
     · first | rfl | rw [next_wY hlt hlen] | go_num
     · first | exact next_mY hlt | (rw [next_wY hlt hlen]; exact next_mY hlt)
   · have hj1 : ¬ (j : Int) < (L.length : Int) := fun q => hlt (Int.ofNat_lt.1 q)
     have z : Hz (Says (RowOk L k) (.returned (.bool true))) := Hz.mk ⟨true, rfl, iff_of_true rfl ⟨by omega, fun m h => hbe.out m h (by omega)⟩⟩
     go_wp2_with fail
     go_ret
     exact ⟨z.out, G.out⟩
end Z
end Go.Proofs.YthfphgjjieddjaaGreat


namespace Go.Proofs.YthfphgjjieddjaaGreat
set_option maxRecDepth 100000
set_option maxHeartbeats 40000000
namespace Z
open Go.RowKit
open T (Sep Ob Kp Mf FlIn boxOb)

structure Rp where
 code : List (List Ri)
 gates : List Rg
 dep : Int
structure Rp.Is (R : Rp) : Prop where
 code : ∀ r ∈ R.code, ∀ i ∈ r, i.Is
def Rp.Gt (R : Rp) (k : Nat) : Prop := ∃ (h : k < R.gates.length) (h2 : k < R.code.length), RowOk R.code[k] R.gates.length ∧ R.gates[k].Ok R.code[k].length
structure Rp.Ok (R : Rp) (m : Nat) : Prop where
 n1 : 1 ≤ R.gates.length ∧ R.gates.length ≤ 16
 nc : R.code.length = R.gates.length
 dp : 0 ≤ R.dep ∧ R.dep ≤ 16
 mm : m ≤ 65536
 gt : ∀ k, k < R.gates.length → R.Gt k
def Rp.pr (R : Rp) : Pr := ⟨R.code.map fun r => r.map Ri.fi, R.gates.map Rg.fg, R.dep⟩
structure RpIn (w : World) (ca ga : Option Addr) (R : Rp) : Prop where
 code : ∀ k (h : k < R.code.length), ∃ (b off : Nat) (ra : Option Addr) (rc : Nat), ca = some ⟨b, off, none⟩ ∧ b < w.heap.size ∧ w.cell? ⟨b, off + k, none⟩ = some (.slice ra R.code[k].length rc) ∧ T.EIn 5 Ri.vals w ra R.code[k]
 gate : ∀ k (h : k < R.gates.length), ∃ b off : Nat, ga = some ⟨b, off, none⟩ ∧ b < w.heap.size ∧ w.rangeAt b (off + k * 19) R.gates[k].vals
theorem RpIn.gr {w W : World} {ca ga : Option Addr} {R : Rp} (h : RpIn w ca ga R) (g : Gr w W) : RpIn W ca ga R := by
 refine ⟨fun k hk => ?_, fun k hk => ?_⟩
 · obtain ⟨b, off, ra, rc, e1, e2, e3, e4⟩ := h.code k hk
   exact ⟨b, off, ra, rc, e1, Nat.lt_of_lt_of_le e2 g.below.size, (T.cell_of_block (g.below.block b e2) _).trans e3, e4.below g.below⟩
 · obtain ⟨b, off, e1, e2, e3⟩ := h.gate k hk
   exact ⟨b, off, e1, Nat.lt_of_lt_of_le e2 g.below.size, fun i v q => (T.cell_of_block (g.below.block b e2) _).trans (e3 i v q)⟩
theorem Rg.one (g : Rg) : g.vals.toArray.all (fun x => x.oneCell') = true := by
 rw [Array.all_eq_true_iff_forall_mem]
 intro u hu
 simp only [List.mem_toArray, Rg.vals, List.mem_cons] at hu
 rcases hu with rfl | rfl | rfl | hu
 · rfl
 · rfl
 · rfl
 · exact regs_one g.r u hu
theorem Rp.Ok.pr {R : Rp} {m : Nat} (h : R.Ok m) (hi : R.Is) : R.pr.Ok := by
 have hcl : R.pr.code.length = R.code.length := by simp [Rp.pr]
 have hgl : R.pr.gates.length = R.gates.length := by simp [Rp.pr]
 refine ⟨by rw [hgl]; exact h.n1, by rw [hcl, hgl]; exact h.nc, h.dp, fun r hr => ?_, fun k h1 h2 => ?_⟩
 · rw [hgl]
   simp only [Rp.pr, List.mem_map] at hr
   obtain ⟨r0, hr0, rfl⟩ := hr
   obtain ⟨k, hk, rfl⟩ := List.getElem_of_mem hr0
   obtain ⟨_, _, hrow, _⟩ := h.gt k (by rw [← h.nc]; exact hk)
   refine ⟨by rw [List.length_map]; exact hrow.1, fun i hi2 => ?_⟩
   rw [List.length_map]
   obtain ⟨i0, hi0, rfl⟩ := List.mem_map.1 hi2
   obtain ⟨j, hj, rfl⟩ := List.getElem_of_mem hi0
   exact ((hrow.2 j hj).fi (hi.code _ hr0 _ hi0)).1
 · obtain ⟨q1, q2, hrow, hg⟩ := h.gt k (by rw [← hgl]; exact h1)
   have e1 : R.pr.gates[k] = R.gates[k].fg := by simp [Rp.pr]
   have e2 : R.pr.code[k].length = R.code[k].length := by simp [Rp.pr]
   rw [e1, e2]
   obtain ⟨a1, a2, a3⟩ := hg
   refine ⟨?_, ?_, ?_⟩
   · show R.gates[k].e.toNat < _
     omega
   · show R.gates[k].a.toNat ≤ 7
     omega
   · show R.gates[k].s.toNat ≤ 7
     omega
theorem Rp.Ok.rw {R : Rp} {m : Nat} (h : R.Ok m) (hi : R.Is) {w : World} {ca ga : Option Addr} (hR : RpIn w ca ga R) : RwIn w ca ga R.pr := by
 have hcl : R.pr.code.length = R.code.length := by simp [Rp.pr]
 have hgl : R.pr.gates.length = R.gates.length := by simp [Rp.pr]
 refine ⟨fun k hk => ?_, fun k hk => ?_⟩
 · have hk2 : k < R.code.length := by rw [← hcl]; exact hk
   obtain ⟨b, off, ra, rc, e1, e2, e3, e4⟩ := hR.code k hk2
   have e5 : R.pr.code[k] = R.code[k].map Ri.fi := by simp [Rp.pr]
   obtain ⟨_, _, hrow, _⟩ := h.gt k (by rw [← h.nc]; exact hk2)
   refine ⟨b, off, ra, rc, e1, e2, by rw [e5, List.length_map]; exact e3, ?_⟩
   rw [e5]
   intro j hj
   have hj2 : j < R.code[k].length := by simpa using hj
   obtain ⟨b2, off2, f1, f2, f3⟩ := e4 j hj2
   refine ⟨b2, off2, f1, f2, ?_⟩
   rw [List.getElem_map, ((hrow.2 j hj2).fi (hi.code _ (List.getElem_mem hk2) _ (List.getElem_mem hj2))).2]
   exact f3
 · have hk2 : k < R.gates.length := by rw [← hgl]; exact hk
   obtain ⟨b, off, e1, e2, e3⟩ := hR.gate k hk2
   obtain ⟨_, _, _, hg⟩ := h.gt k hk2
   have e5 : R.pr.gates[k] = R.gates[k].fg := by simp [Rp.pr]
   refine ⟨b, off, e1, e2, ?_⟩
   rw [e5, hg.vals]
   exact e3
theorem mayBe_any (R : Rp) (ca ga : Option Addr) (cc gc : Nat) (mem : ByteArray) (w : World) (hP : RpIn w ca ga R) (is : R.Is) :
   Calls Tryz.prog 28 #[.agg #[.slice ca R.code.length cc, .slice ga R.gates.length gc, .string mem, .int .i64 R.dep]] w fun x w' => Says (R.Ok mem.size) x ∧ Gr w w' := by
 replace is := Hz.mk is
 go_enter Tryz.func28, Tryz.ntmps28
 go_upto_region 1 with fail
 refine wp_world (fun W => At W w.heap.size #[.slice ca R.code.length cc, .slice ga R.gates.length gc, .string mem, .int .i64 R.dep] ∧ Gr w W) ⟨At.new w _ _, (Gr.refl _).alloc _⟩ ?_
 rintro W ⟨hA, G⟩
 replace hP := Hz.mk (hP.gr G)
 generalize w.heap.size = kp at *
 have c0 : W.cell? ⟨kp, 0, none⟩ = some (.slice ca R.code.length cc) := hA.2.1 0
 have c1 : W.cell? ⟨kp, 1, none⟩ = some (.slice ga R.gates.length gc) := hA.2.1 1
 have c2 : W.cell? ⟨kp, 2, none⟩ = some (.string mem) := hA.2.1 2
 have c3 : W.cell? ⟨kp, 3, none⟩ = some (.int .i64 R.dep) := hA.2.1 3
 replace hA := Hz.mk hA
 by_cases n1 : 1 ≤ (R.gates.length : Int) ∧ (R.gates.length : Int) ≤ 16
 rotate_left
 · skip
   have z : Hz (Says (R.Ok mem.size) (.returned (.bool false))) := Hz.mk ⟨false, rfl, iff_of_false (by decide) (fun q => absurd q.n1 (by omega))⟩
   go_wp2_with fail
   refine (isWithin_no _ _ _ _ (by omega)).mono ?_
   rintro r w1 ⟨rfl, e1⟩
   subst e1
   go_wp2_with fail
   go_ret
   exact ⟨z.out, G⟩
 by_cases nc : R.code.length = R.gates.length
 rotate_left
 · have nci : ((R.code.length : Int) != (R.gates.length : Int)) = true := by simp; omega
   have z : Hz (Says (R.Ok mem.size) (.returned (.bool false))) := Hz.mk ⟨false, rfl, iff_of_false (by decide) (fun q => absurd q.nc nc)⟩
   clear nc
   go_wp2_with fail
   refine (isWithin_ok _ _ _ _ (by omega) (by omega)).mono ?_
   rintro r w1 ⟨rfl, e1⟩
   subst e1
   go_wp2_with fail
   go_ret
   exact ⟨z.out, G⟩
 have nci : ((R.code.length : Int) != (R.gates.length : Int)) = false := by simp [nc]
 replace nc := Hz.mk nc
 by_cases dp : 0 ≤ R.dep ∧ R.dep ≤ 16
 rotate_left
 · skip
   have z : Hz (Says (R.Ok mem.size) (.returned (.bool false))) := Hz.mk ⟨false, rfl, iff_of_false (by decide) (fun q => absurd q.dp dp)⟩
   go_wp2_with fail
   refine (isWithin_ok _ _ _ _ (by omega) (by omega)).mono ?_
   rintro r w1 ⟨rfl, e1⟩
   subst e1
   go_wp2_with fail
   refine (isWithin_no _ _ _ _ (by omega)).mono ?_
   rintro r w2 ⟨rfl, e1⟩
   subst e1
   go_wp2_with fail
   go_ret
   exact ⟨z.out, G⟩
 by_cases hmi : (65536 : Int) < (mem.size : Int)
 · skip
   have z : Hz (Says (R.Ok mem.size) (.returned (.bool false))) := Hz.mk ⟨false, rfl, iff_of_false (by decide) (fun q => absurd q.mm (by omega))⟩
   go_wp2_with fail
   refine (isWithin_ok _ _ _ _ (by omega) (by omega)).mono ?_
   rintro r w1 ⟨rfl, e1⟩
   subst e1
   go_wp2_with fail
   refine (isWithin_ok _ _ _ _ (by omega) (by omega)).mono ?_
   rintro r w2 ⟨rfl, e1⟩
   subst e1
   go_wp2_with fail
   go_ret
   exact ⟨z.out, G⟩
 have hlen : R.gates.length ≤ 1000000 := by omega
 go_wp2_with fail
 refine (isWithin_ok _ _ _ _ (by omega) (by omega)).mono ?_
 rintro r w1 ⟨rfl, e1⟩
 subst e1
 go_wp2_with fail
 refine (isWithin_ok _ _ _ _ (by omega) (by omega)).mono ?_
 rintro r w2 ⟨rfl, e1⟩
 subst e1
 go_upto_region 6 with fail
 clear c0 c1 c2 c3
 go_loopw [32] (fun x wr => ∃ k : Nat, x = .int .i64 k ∧ k ≤ R.gates.length ∧ Hz (∀ m, m < k → R.Gt m) ∧ Hz (Gr w2 wr)) (fun x _ => R.gates.length - (intOf x).toNat)
 case atStart => exact ⟨0, rfl, Nat.zero_le _, Hz.mk (fun m q => absurd q (Nat.not_lt_zero _)), Hz.mk (Gr.refl _)⟩
 case round =>
   obtain ⟨k, rfl, hk, hbe, G2⟩ := hrel
   by_cases hlt : k < R.gates.length
   · have hk1 : (k : Int) < (R.gates.length : Int) := Int.ofNat_lt.2 hlt
     have hkc : k < R.code.length := by rw [nc.out]; exact hlt
     have hk2 : (k : Int) < (R.code.length : Int) := Int.ofNat_lt.2 hkc
     have his := Hz.mk (is.out.code _ (List.getElem_mem hkc))
     obtain ⟨gb, goff, rfl, hgb, hgr⟩ := (hP.out.gr G2.out).gate k hlt
     go_upto_region 7 with fail
     refine wp_region_lit ?_
     iterate 2 (refine wpList_plain rfl (fun K hK => ?_); go_simp; with_reducible refine hK _ _ ?_; clear hK K; (try simp only [xap]))
     refine wpList_plain rfl (fun K hK => ?_)
     refine wp_load_mid _ _ rfl _ (goff + k * 19) rfl R.gates[k].vals _ hgr Tryz.underlying83 rfl (by rw [Rg.len]; kernel_rfl) (hK _ _ ?_)
     clear hK K
     try simp only [xap]
     refine wpList_plain rfl (fun K hK => ?_)
     go_simp
     with_reducible refine hK _ _ ?_
     clear hK K
     try simp only [xap]
     have hA7 : At (wr.alloc (.cells (List.toArray [Value.int .i64 0, .int .i64 0, .int .i64 0, .int .u64 0, .int .u64 0, .int .u64 0, .int .u64 0, .int .u64 0, .int .u64 0, .int .u64 0, .int .u64 0, .int .u64 0, .int .u64 0, .int .u64 0, .int .u64 0, .int .u64 0, .int .u64 0, .int .u64 0, .int .u64 0]) 83)) wr.heap.size (List.toArray [Value.int .i64 0, .int .i64 0, .int .i64 0, .int .u64 0, .int .u64 0, .int .u64 0, .int .u64 0, .int .u64 0, .int .u64 0, .int .u64 0, .int .u64 0, .int .u64 0, .int .u64 0, .int .u64 0, .int .u64 0, .int .u64 0, .int .u64 0, .int .u64 0, .int .u64 0]) := At.new wr _ _
     have hth := Hz.mk (At.there hA7 0 19 (by decide))
     have hA8 := Hz.mk (At.setAll hA7 R.gates[k].vals (by rw [Rg.len]; rfl))
     have g8 := Hz.mk (Gr.setCells ((Gr.refl wr).alloc (.cells (List.toArray [Value.int .i64 0, .int .i64 0, .int .i64 0, .int .u64 0, .int .u64 0, .int .u64 0, .int .u64 0, .int .u64 0, .int .u64 0, .int .u64 0, .int .u64 0, .int .u64 0, .int .u64 0, .int .u64 0, .int .u64 0, .int .u64 0, .int .u64 0, .int .u64 0, .int .u64 0]) 83)) wr.heap.size (Nat.le_refl _) R.gates[k].vals 0)
     rw [← Rg.len R.gates[k]] at hth
     clear hA7
     refine wpList_plain rfl (fun K hK => ?_)
     go_simp
     with_reducible refine hK _ _ ?_
     clear hK K
     try simp only [xap]
     refine wpList_plain rfl (fun K hK => ?_)
     refine wp_store_mid _ _ _ rfl _ _ (List.toArray R.gates[k].vals) rfl rfl (by simpa using hth.out) (by rw [List.size_toArray, Rg.len]; kernel_rfl) (Rg.one _) (hK _ _ ?_)
     clear hK K
     try simp only [Act.put]
     generalize World.setCells _ _ _ _ = V at *
     have hA9 := hA8
     have G3 := Hz.mk (G2.out.trans g8.out)
     clear hA8 g8 hth hgr hgb
     generalize wr.heap.size = kg at *
     clear G2
     have hAp := Hz.mk (hA.out.gr G3.out)
     obtain ⟨b, off, ra, rc, e9, hb9, hcc, hE⟩ := (hP.out.gr G3.out).code k hkc
     subst e9
     replace hE := Hz.mk hE
     have KS : Hz (∀ U, Gr V U → U.cell? ⟨kp, 0, none⟩ = some (.slice (some ⟨b, off, none⟩) R.code.length cc) ∧ U.cell? ⟨kp, 1, none⟩ = some (.slice (some ⟨gb, goff, none⟩) R.gates.length gc) ∧ U.cell? ⟨b, off + k, none⟩ = some (.slice ra R.code[k].length rc) ∧ U.rangeAt kg 0 R.gates[k].vals) := Hz.mk (fun U g => ⟨(hAp.out.gr g).2.1 0, (hAp.out.gr g).2.1 1, (T.cell_of_block (g.below.block b hb9) _).trans hcc, (hA9.out.gr g).range⟩)
     have g0 : Gr V V.drew := (Gr.refl V).drew
     clear hb9 hcc
     by_cases hrow : RowOk R.code[k] R.gates.length
     rotate_left
     · skip
       have z : Hz (Says (R.Ok mem.size) (.returned (.bool false))) := Hz.mk ⟨false, rfl, iff_of_false (by decide) (fun q => absurd (q.gt k hlt) (fun ⟨_, _, a, _⟩ => hrow a))⟩
       replace hrow := Hz.mk hrow
       go_upto_region 8 with fail
       refine wp_region_held_drew (S := (fun W => W.cell? ⟨kp, 0, none⟩ = some (.slice (some ⟨b, off, none⟩) R.code.length cc) ∧ W.cell? ⟨kp, 1, none⟩ = some (.slice (some ⟨gb, goff, none⟩) R.gates.length gc) ∧ W.cell? ⟨b, off + k, none⟩ = some (.slice ra R.code[k].length rc) ∧ W.rangeAt kg 0 R.gates[k].vals)) (by kernel_rfl) (KS.out _ g0) (fun hHeld => ?_)
       refine xso 0 ?_ rfl ?_ (xso 1 ?_ rfl ?_ (xso 2 ?_ rfl ?_ (xso 3 ?_ rfl ?_ (xso 4 ?_ rfl ?_ (xso 5 ?_ rfl ?_ (xso 6 ?_ rfl ?_ (xso 7 ?_ rfl ?_ ?_)))))))
       iterate 8 (rotate_left; focus ((try simp only [xap]); intro w hSw; (try dsimp only at hSw); go_simp; first | done | with_reducible rfl))
       try simp only [xap]
       refine xrd 8 rfl (fun K hK => ?_)
       go_simp
       go_wp2_with (refine (row_any R.code[k] ra rc R.gates.length _ (hE.out.below g0.below) his.out (by omega)).mono ?_; rintro r U1 ⟨⟨b8, rfl, hb8⟩, gg⟩; obtain rfl : b8 = false := (by cases b8; rfl; exact absurd (hb8.1 rfl) hrow.out); clear hb8; have g1 := g0.trans gg; clear gg g0 hHeld)
       refine hK.out _ _ (KS.out _ g1) (fun hHeld => ?_)
       clear hK K
       try simp only [xap]
       refine xso 9 ?_ rfl ?_ (xso 10 ?_ rfl ?_ ?_)
       iterate 2 (rotate_left; focus ((try simp only [xap]); intro w hSw; (try dsimp only at hSw); go_simp; first | done | with_reducible rfl))
       try simp only [xap]
       refine xtk 11 (v := undef) rfl (Or.inr ⟨by rfl, rfl⟩) ?_
       try simp only [xap]
       refine xtk 12 (v := undef) rfl (Or.inr ⟨by rfl, rfl⟩) ?_
       try simp only [xap]
       refine xtk 13 (v := undef) rfl (Or.inr ⟨by rfl, rfl⟩) ?_
       try simp only [xap]
       refine xtk 14 (v := undef) rfl (Or.inr ⟨by rfl, rfl⟩) ?_
       try simp only [xap]
       refine xtk 15 (v := undef) rfl (Or.inr ⟨by rfl, rfl⟩) ?_
       try simp only [xap]
       refine xtk 16 (v := undef) rfl (Or.inr ⟨by rfl, rfl⟩) ?_
       try simp only [xap]
       refine xtk 17 (v := undef) rfl (Or.inr ⟨by rfl, rfl⟩) ?_
       try simp only [xap]
       refine xtk 18 (v := undef) rfl (Or.inr ⟨by rfl, rfl⟩) ?_
       try simp only [xap]
       refine xtk 19 (v := undef) rfl (Or.inr ⟨by rfl, rfl⟩) ?_
       try simp only [xap]
       refine xso 20 ?_ rfl ?_ ?_
       rotate_left
       · intro w hSw; (try dsimp only at hSw); go_simp; first | done | with_reducible rfl
       try simp only [xap]
       refine xdn ?_ _
       clear hHeld KS
       have G4 := Hz.mk (G.trans (G3.out.trans g1))
       clear G3 g1 hE hAp hA9
       go_wp2_with fail
       go_ret
       exact ⟨z.out, G4.out⟩
     have hr4 := hrow.1
     replace hrow := Hz.mk hrow
     by_cases hga : R.gates[k].Ok R.code[k].length
     rotate_left
     · skip
       have z : Hz (Says (R.Ok mem.size) (.returned (.bool false))) := Hz.mk ⟨false, rfl, iff_of_false (by decide) (fun q => absurd (q.gt k hlt) (fun ⟨_, _, _, a⟩ => hga a))⟩
       replace hga := Hz.mk hga
       go_upto_region 8 with fail
       refine wp_region_held_drew (S := (fun W => W.cell? ⟨kp, 0, none⟩ = some (.slice (some ⟨b, off, none⟩) R.code.length cc) ∧ W.cell? ⟨kp, 1, none⟩ = some (.slice (some ⟨gb, goff, none⟩) R.gates.length gc) ∧ W.cell? ⟨b, off + k, none⟩ = some (.slice ra R.code[k].length rc) ∧ W.rangeAt kg 0 R.gates[k].vals)) (by kernel_rfl) (KS.out _ g0) (fun hHeld => ?_)
       refine xso 0 ?_ rfl ?_ (xso 1 ?_ rfl ?_ (xso 2 ?_ rfl ?_ (xso 3 ?_ rfl ?_ (xso 4 ?_ rfl ?_ (xso 5 ?_ rfl ?_ (xso 6 ?_ rfl ?_ (xso 7 ?_ rfl ?_ ?_)))))))
       iterate 8 (rotate_left; focus ((try simp only [xap]); intro w hSw; (try dsimp only at hSw); go_simp; first | done | with_reducible rfl))
       try simp only [xap]
       refine xrd 8 rfl (fun K hK => ?_)
       go_simp
       go_wp2_with (refine (row_any R.code[k] ra rc R.gates.length _ (hE.out.below g0.below) his.out (by omega)).mono ?_; rintro r U1 ⟨⟨b8, rfl, hb8⟩, gg⟩; obtain rfl : b8 = true := hb8.2 hrow.out; clear hb8; have g1 := g0.trans gg; clear gg g0 hHeld)
       refine hK.out _ _ (KS.out _ g1) (fun hHeld => ?_)
       clear hK K
       try simp only [xap]
       refine xso 9 ?_ rfl ?_ (xso 10 ?_ rfl ?_ ?_)
       iterate 2 (rotate_left; focus ((try simp only [xap]); intro w hSw; (try dsimp only at hSw); go_simp; first | done | with_reducible rfl))
       try simp only [xap]
       refine xtk 11 rfl (yieldsIf_load_mid (by rfl) _ _ rfl _ _ rfl _ _ (fun _ h => h.2.2.2) Tryz.underlying83 rfl (by rw [Rg.len]; kernel_rfl)) ?_
       try simp only [xap]
       refine xso 12 ?_ rfl ?_ ?_
       rotate_left
       · intro w hSw; (try dsimp only at hSw); go_simp; first | done | with_reducible rfl
       try simp only [xap]
       refine xso 13 ?_ rfl ?_ ?_
       rotate_left
       · intro w hSw; (try dsimp only at hSw); go_simp; first | done | with_reducible rfl
       try simp only [xap]
       refine xso 14 ?_ rfl ?_ ?_
       rotate_left
       · intro w hSw; (try dsimp only at hSw); go_simp; first | done | with_reducible rfl
       try simp only [xap]
       refine xso 15 ?_ rfl ?_ ?_
       rotate_left
       · intro w hSw; (try dsimp only at hSw); go_simp; first | done | with_reducible rfl
       try simp only [xap]
       refine xso 16 ?_ rfl ?_ ?_
       rotate_left
       · intro w hSw; (try dsimp only at hSw); go_simp; first | done | with_reducible rfl
       try simp only [xap]
       refine xso 17 ?_ rfl ?_ ?_
       rotate_left
       · intro w hSw; (try dsimp only at hSw); go_simp; first | done | with_reducible rfl
       try simp only [xap]
       refine xrd 18 rfl (fun K hK => ?_)
       go_simp
       go_wp2_with (refine (rgate_any R.gates[k] R.code[k].length _ (by omega)).mono ?_; rintro r U2 ⟨⟨b9, rfl, hb9⟩, gg⟩; obtain rfl : b9 = false := (by cases b9; rfl; exact absurd (hb9.1 rfl) hga.out); clear hb9; have g2 := g1.trans gg; clear gg g1 hHeld)
       refine hK.out _ _ (KS.out _ g2) (fun hHeld => ?_)
       clear hK K
       try simp only [xap]
       refine xso 19 ?_ rfl ?_ (xso 20 ?_ rfl ?_ ?_)
       iterate 2 (rotate_left; focus ((try simp only [xap]); intro w hSw; (try dsimp only at hSw); go_simp; first | done | with_reducible rfl))
       try simp only [xap]
       refine xdn ?_ _
       clear hHeld KS
       have G4 := Hz.mk (G.trans (G3.out.trans g2))
       clear G3 g2 hE hAp hA9
       go_wp2_with fail
       go_ret
       exact ⟨z.out, G4.out⟩
     replace hga := Hz.mk hga
     have hbe2 : Hz (∀ m, m < k + 1 → R.Gt m) := Hz.mk (fun m q => by
       by_cases e : m < k
       · exact hbe.out m e
       · obtain rfl : m = k := by omega
         exact ⟨hlt, hkc, hrow.out, hga.out⟩)
     go_upto_region 8 with fail
     refine wp_region_held_drew (S := (fun W => W.cell? ⟨kp, 0, none⟩ = some (.slice (some ⟨b, off, none⟩) R.code.length cc) ∧ W.cell? ⟨kp, 1, none⟩ = some (.slice (some ⟨gb, goff, none⟩) R.gates.length gc) ∧ W.cell? ⟨b, off + k, none⟩ = some (.slice ra R.code[k].length rc) ∧ W.rangeAt kg 0 R.gates[k].vals)) (by kernel_rfl) (KS.out _ g0) (fun hHeld => ?_)
     refine xso 0 ?_ rfl ?_ (xso 1 ?_ rfl ?_ (xso 2 ?_ rfl ?_ (xso 3 ?_ rfl ?_ (xso 4 ?_ rfl ?_ (xso 5 ?_ rfl ?_ (xso 6 ?_ rfl ?_ (xso 7 ?_ rfl ?_ ?_)))))))
     iterate 8 (rotate_left; focus ((try simp only [xap]); intro w hSw; (try dsimp only at hSw); go_simp; first | done | with_reducible rfl))
     try simp only [xap]
     refine xrd 8 rfl (fun K hK => ?_)
     go_simp
     go_wp2_with (refine (row_any R.code[k] ra rc R.gates.length _ (hE.out.below g0.below) his.out (by omega)).mono ?_; rintro r U1 ⟨⟨b8, rfl, hb8⟩, gg⟩; obtain rfl : b8 = true := hb8.2 hrow.out; clear hb8; have g1 := g0.trans gg; clear gg g0 hHeld)
     refine hK.out _ _ (KS.out _ g1) (fun hHeld => ?_)
     clear hK K
     try simp only [xap]
     refine xso 9 ?_ rfl ?_ (xso 10 ?_ rfl ?_ ?_)
     iterate 2 (rotate_left; focus ((try simp only [xap]); intro w hSw; (try dsimp only at hSw); go_simp; first | done | with_reducible rfl))
     try simp only [xap]
     refine xtk 11 rfl (yieldsIf_load_mid (by rfl) _ _ rfl _ _ rfl _ _ (fun _ h => h.2.2.2) Tryz.underlying83 rfl (by rw [Rg.len]; kernel_rfl)) ?_
     try simp only [xap]
     refine xso 12 ?_ rfl ?_ ?_
     rotate_left
     · intro w hSw; (try dsimp only at hSw); go_simp; first | done | with_reducible rfl
     try simp only [xap]
     refine xso 13 ?_ rfl ?_ ?_
     rotate_left
     · intro w hSw; (try dsimp only at hSw); go_simp; first | done | with_reducible rfl
     try simp only [xap]
     refine xso 14 ?_ rfl ?_ ?_
     rotate_left
     · intro w hSw; (try dsimp only at hSw); go_simp; first | done | with_reducible rfl
     try simp only [xap]
     refine xso 15 ?_ rfl ?_ ?_
     rotate_left
     · intro w hSw; (try dsimp only at hSw); go_simp; first | done | with_reducible rfl
     try simp only [xap]
     refine xso 16 ?_ rfl ?_ ?_
     rotate_left
     · intro w hSw; (try dsimp only at hSw); go_simp; first | done | with_reducible rfl
     try simp only [xap]
     refine xso 17 ?_ rfl ?_ ?_
     rotate_left
     · intro w hSw; (try dsimp only at hSw); go_simp; first | done | with_reducible rfl
     try simp only [xap]
     refine xrd 18 rfl (fun K hK => ?_)
     go_simp
     go_wp2_with (refine (rgate_any R.gates[k] R.code[k].length _ (by omega)).mono ?_; rintro r U2 ⟨⟨b9, rfl, hb9⟩, gg⟩; obtain rfl : b9 = true := hb9.2 hga.out; clear hb9; have g2 := g1.trans gg; clear gg g1 hHeld)
     refine hK.out _ _ (KS.out _ g2) (fun hHeld => ?_)
     clear hK K
     try simp only [xap]
     refine xso 19 ?_ rfl ?_ (xso 20 ?_ rfl ?_ ?_)
     iterate 2 (rotate_left; focus ((try simp only [xap]); intro w hSw; (try dsimp only at hSw); go_simp; first | done | with_reducible rfl))
     try simp only [xap]
     refine xdn ?_ _
     clear hHeld KS
     have G4 := Hz.mk (G3.out.trans g2)
     clear G3 g2 hE hAp hA9 hbe
     go_wp2_with fail
     refine ⟨⟨k + 1, ?_, hlt, hbe2, G4⟩, ?_⟩
     · first | rfl | rw [next_wY hlt hlen] | go_num
     · first | exact next_mY hlt | (rw [next_wY hlt hlen]; exact next_mY hlt)
   · have hk1 : ¬ (k : Int) < (R.gates.length : Int) := fun q => hlt (Int.ofNat_lt.1 q)
     have z : Hz (Says (R.Ok mem.size) (.returned (.bool true))) := Hz.mk ⟨true, rfl, iff_of_true rfl ⟨by omega, nc.out, dp, by omega, fun m q => hbe.out m (by omega)⟩⟩
     go_wp2_with fail
     go_ret
     exact ⟨z.out, G.trans G2.out⟩
end Z
end Go.Proofs.YthfphgjjieddjaaGreat


namespace Go.Proofs.YthfphgjjieddjaaGreat
set_option maxRecDepth 100000
set_option maxHeartbeats 40000000
namespace Z
open Go.RowKit
open T (Sep Ob Kp Mf FlIn boxOb)

theorem new_no70 (R : Rp) (ca ga : Option Addr) (cc gc : Nat) (mem : List UInt8) (gate : Int) (sa : Option Addr) (n sc : Nat) (vi : Value) (w : World) (hP : RpIn w ca ga R) (is : R.Is) (h : ¬ (R.Ok (T.str mem).size ∧ 0 ≤ gate ∧ gate < (R.gates.length : Int))) :
   Calls Tryz.prog 12 #[.agg #[.slice ca R.code.length cc, .slice ga R.gates.length gc, .string (T.str mem), .int .i64 R.dep], .int .i64 gate, .slice sa n sc, vi] w fun x w' => x = .returned (.tuple #[.pointer none, .int .i64 70]) ∧ Gr w w' := by
 go_enter Tryz.func12, Tryz.ntmps12
 go_upto_region 1 with fail
 refine wp_world (fun W => At W w.heap.size #[.slice ca R.code.length cc, .slice ga R.gates.length gc, .string (T.str mem), .int .i64 R.dep] ∧ Gr w W) ⟨At.new w _ _, (Gr.refl _).alloc _⟩ ?_
 rintro W ⟨hA, G⟩
 generalize w.heap.size = kp at *
 have d0 : W.cell? ⟨kp, 0, none⟩ = some (.slice ca R.code.length cc) := hA.2.1 0
 have d1 : W.cell? ⟨kp, 1, none⟩ = some (.slice ga R.gates.length gc) := hA.2.1 1
 have d2 : W.cell? ⟨kp, 2, none⟩ = some (.string (T.str mem)) := hA.2.1 2
 have d3 : W.cell? ⟨kp, 3, none⟩ = some (.int .i64 R.dep) := hA.2.1 3
 have hmy := Hz.mk (mayBe_any R ca ga cc gc (T.str mem) W (hP.gr G) is)
 replace hP := Hz.mk (hP.gr G)
 go_wp2_with fail
 refine hmy.out.mono ?_
 rintro r V ⟨⟨b, rfl, hb⟩, gV⟩
 replace hA := hA.gr gV
 replace G := G.trans gV
 replace hP := Hz.mk (hP.out.gr gV)
 clear d0 d1 d2 d3 hmy gV
 have d1 : V.cell? ⟨kp, 1, none⟩ = some (.slice ga R.gates.length gc) := hA.2.1 1
 replace hA := Hz.mk hA
 cases b
 · clear h hb
   go_wp2_with fail
   go_ret2
   exact ⟨rfl, G⟩
 · have ok := Hz.mk (hb.1 rfl)
   clear hb
   by_cases h0 : gate < 0
   · clear h
     go_wp2_with fail
     go_ret2
     exact ⟨rfl, G⟩
   · have h1 : (R.gates.length : Int) ≤ gate := by
       by_cases q : gate < (R.gates.length : Int)
       · exact absurd ⟨ok.out, by omega, q⟩ h
       · omega
     clear h
     go_wp2_with fail
     go_ret2
     exact ⟨rfl, G⟩
theorem new_no71 (R : Rp) (ca ga : Option Addr) (cc gc : Nat) (mem : List UInt8) (gate : Nat) (sa : Option Addr) (n sc : Nat) (vi : Value) (w : World) (hP : RpIn w ca ga R) (is : R.Is) (ok : R.Ok (T.str mem).size) (hg : gate < R.gates.length) (h : (n : Int) ≠ R.gates[gate].a) :
   Calls Tryz.prog 12 #[.agg #[.slice ca R.code.length cc, .slice ga R.gates.length gc, .string (T.str mem), .int .i64 R.dep], .int .i64 gate, .slice sa n sc, vi] w fun x w' => x = .returned (.tuple #[.pointer none, .int .i64 71]) ∧ Gr w w' := by
 have h2 : ((n : Int) != R.gates[gate].a) = true := by simpa using h
 replace ok := Hz.mk ok
 replace h := Hz.mk h
 have hi : (gate : Int) < (R.gates.length : Int) := Int.ofNat_lt.2 hg
 have hi2 : ¬ (R.gates.length : Int) ≤ (gate : Int) := by omega
 go_enter Tryz.func12, Tryz.ntmps12
 go_upto_region 1 with fail
 refine wp_world (fun W => At W w.heap.size #[.slice ca R.code.length cc, .slice ga R.gates.length gc, .string (T.str mem), .int .i64 R.dep] ∧ Gr w W) ⟨At.new w _ _, (Gr.refl _).alloc _⟩ ?_
 rintro W ⟨hA, G⟩
 generalize w.heap.size = kp at *
 have d0 : W.cell? ⟨kp, 0, none⟩ = some (.slice ca R.code.length cc) := hA.2.1 0
 have d1 : W.cell? ⟨kp, 1, none⟩ = some (.slice ga R.gates.length gc) := hA.2.1 1
 have d2 : W.cell? ⟨kp, 2, none⟩ = some (.string (T.str mem)) := hA.2.1 2
 have d3 : W.cell? ⟨kp, 3, none⟩ = some (.int .i64 R.dep) := hA.2.1 3
 have hmy := Hz.mk (mayBe_any R ca ga cc gc (T.str mem) W (hP.gr G) is)
 replace hP := Hz.mk (hP.gr G)
 go_wp2_with fail
 refine hmy.out.mono ?_
 rintro r V ⟨⟨b, rfl, hb⟩, gV⟩
 replace hA := hA.gr gV
 replace G := G.trans gV
 replace hP := Hz.mk (hP.out.gr gV)
 clear d0 d1 d2 d3 hmy gV
 have d1 : V.cell? ⟨kp, 1, none⟩ = some (.slice ga R.gates.length gc) := hA.2.1 1
 replace hA := Hz.mk hA
 obtain rfl : b = true := hb.2 ok.out
 clear hb
 obtain ⟨gb, goff, rfl, _, hr⟩ := hP.out.gate gate hg
 have d5 : V.cell? ⟨gb, goff + gate * 19 + 1, none⟩ = some (.int .i64 R.gates[gate].a) := hr 1 _ rfl
 replace hr := Hz.mk hr
 go_wp2_with fail
 go_ret2
 exact ⟨rfl, G⟩
theorem new_raw (R : Rp) (ca ga : Option Addr) (cc gc : Nat) (mem : List UInt8) (gate : Nat) (sa : Option Addr) (n sc : Nat) (A : Nat → Int) (ia : Option Addr) (ic : Nat) (L : List Int) (w : World) (hP : RpIn w ca ga R) (is : R.Is) (ok : R.Ok mem.length) (hgl : gate < R.gates.length) (hna : (n : Int) = R.gates[gate].a) (hsrc : n = 0 ∨ ∃ sb so, sa = some ⟨sb, so, none⟩ ∧ sb < w.heap.size ∧ ∀ j, j < n → w.cell? ⟨sb, so + j, none⟩ = some (.int .u64 (A j))) (hL : L.length ≤ 2000000) (hI : (ia = none ∧ L = [] ∧ ic = 0) ∨ ∃ b off, ia = some ⟨b, off, none⟩ ∧ b < w.heap.size ∧ ∀ i (h : i < L.length), w.cell? ⟨b, off + i, none⟩ = some (.int .u64 L[i])) :
   Calls Tryz.prog 12 #[.agg #[.slice ca R.code.length cc, .slice ga R.gates.length gc, .string (T.str mem), .int .i64 R.dep], .int .i64 gate, .slice sa n sc, .slice ia L.length ic] w fun x w' => ∃ a, x = .returned (.tuple #[.pointer (some ⟨a, 0, none⟩), .int .i64 0]) ∧ MIn w.heap.size w' a R.pr (start R.gates[gate].fg gate n A L mem) [] ∧ Below w.heap.size w w' := by
 have e1 : R.pr.code.length = R.code.length := by simp [Rp.pr]
 have e2 : R.pr.gates.length = R.gates.length := by simp [Rp.pr]
 have hg2 : gate < R.pr.gates.length := by rw [e2]; exact hgl
 have e3 : R.pr.gates[gate] = R.gates[gate].fg := by simp [Rp.pr]
 have hs : n = R.pr.gates[gate].a := by
   rw [e3]
   show n = R.gates[gate].a.toNat
   omega
 have h := new_ok R.pr ca ga cc gc mem gate sa n sc A ia ic L w (ok.rw is hP) (ok.pr is) ok.mm hg2 hs hsrc hL hI
 rw [e1, e2, e3] at h
 exact h
theorem start_ok (R : Rp) (m : Nat) (gate n : Nat) (A : Nat → Int) (L : List Int) (mem : List UInt8) (ok : R.Ok m) (rr : ∀ k (h : k < R.gates.length) j, 0 ≤ R.gates[k].r j ∧ R.gates[k].r j < 18446744073709551616) (hg : gate < R.gates.length) (hA : ∀ j, 0 ≤ A j ∧ A j < 18446744073709551616) : (start R.gates[gate].fg gate n A L mem).g < R.pr.code.length ∧ (start R.gates[gate].fg gate n A L mem).p ≤ 400 ∧ ∀ j, 0 ≤ (start R.gates[gate].fg gate n A L mem).r j ∧ (start R.gates[gate].fg gate n A L mem).r j < 18446744073709551616 := by
 obtain ⟨_, h2, hrow, hgt⟩ := ok.gt gate hg
 refine ⟨?_, ?_, fun j => ?_⟩
 · show gate < (R.code.map _).length
   simpa using h2
 · show R.gates[gate].e.toNat ≤ 400
   have h3 := hgt.1
   have h4 := hrow.1
   omega
 · show 0 ≤ entR R.gates[gate].fg n A j ∧ entR R.gates[gate].fg n A j < 18446744073709551616
   unfold entR
   split
   · exact hA _
   · exact rr gate hg j
end Z
end Go.Proofs.YthfphgjjieddjaaGreat


namespace Go.Proofs.YthfphgjjieddjaaGreat
namespace Z
open Go.RowKit
open T (Sep Ob Kp Mf FlIn boxOb)

structure Rp.Wds (R : Rp) : Prop where
 code : R.Is
 root : ∀ g ∈ R.gates, ∀ j, Wd (g.r j)
theorem Rp.Wds.rr {R : Rp} (h : R.Wds) : R.pr.Rr := by
 intro k j
 unfold Pr.gate
 by_cases hk : k < R.gates.length
 · have e : R.pr.gates.getD k ⟨0, 0, 0, fun _ => 0⟩ = R.gates[k].fg := by simp [Rp.pr, hk]
   rw [e]
   exact h.root _ (List.getElem_mem hk) j
 · have e : R.pr.gates.getD k ⟨0, 0, 0, fun _ => 0⟩ = ⟨0, 0, 0, fun _ => 0⟩ := by
     have : R.pr.gates.length ≤ k := by simp [Rp.pr]; omega
     simp [this]
   rw [e]
   exact wd0
theorem start_okn (R : Rp) (m : Nat) (gate n : Nat) (A : Nat → Int) (L : List Int) (mem : List UInt8) (h : R.Wds) (ok : R.Ok m) (hg : gate < R.gates.length) (hA : ∀ j, Wd (A j)) (hL : ∀ x ∈ L, Wd x) (hl : L.length ≤ 2000000) : (start R.gates[gate].fg gate n A L mem).Okn R.pr 0 := by
 obtain ⟨h1, h2, h3⟩ := start_ok R m gate n A L mem ok (fun k hk j => h.root _ (List.getElem_mem hk) j) hg hA
 refine ⟨h1, h2, h3, ?_, fun f hf => ?_, hL, ?_, fun x hx => ?_, Nat.le_refl _, Nat.le_refl _, wd0⟩
 · show ((0 : Nat) : Int) ≤ R.dep
   have := ok.dp
   omega
 · cases hf
 · show L.length ≤ _
   omega
 · cases hx
theorem stepsM_end (P : Pr) (s : Fm) (n : Nat) (h : s.e ≠ 0) : stepsM P s n = s := by
 have := stepsM_over P s 0 n h
 rwa [Nat.zero_add] at this
end Z
end Go.Proofs.YthfphgjjieddjaaGreat


namespace Go.Proofs.YthfphgjjieddjaaGreat
set_option maxRecDepth 100000
set_option maxHeartbeats 40000000
namespace Z
open Go.RowKit
open T (Sep Ob Kp Mf FlIn boxOb)

def WIn (w : World) (a : Option Addr) (L : List Int) : Prop := ∀ i (h : i < L.length), ∃ b off : Nat, a = some ⟨b, off, none⟩ ∧ b < w.heap.size ∧ w.cell? ⟨b, off + i, none⟩ = some (.int .u64 L[i])
theorem WIn.gr {w W : World} {a : Option Addr} {L : List Int} (h : WIn w a L) (g : Gr w W) : WIn W a L := fun i hi => by
 obtain ⟨b, off, e1, e2, e3⟩ := h i hi
 exact ⟨b, off, e1, Nat.lt_of_lt_of_le e2 g.below.size, (T.cell_of_block (g.below.block b e2) _).trans e3⟩
theorem sameWords_any (A B : List Int) (sa sb : Option Addr) (ca cb : Nat) (w : World) (hA : WIn w sa A) (hB : WIn w sb B) (hl : A.length ≤ 1000000) :
   Calls Tryz.prog 24 #[.slice sa A.length ca, .slice sb B.length cb] w fun x w' => Says (A = B) x ∧ Gr w w' := by
 by_cases hn : A.length = B.length
 rotate_left
 · have hni : ((A.length : Int) != (B.length : Int)) = true := by simp; omega
   have z : Hz (Says (A = B) (.returned (.bool false))) := Hz.mk ⟨false, rfl, iff_of_false (by decide) (fun q => hn (by rw [q]))⟩
   clear hn
   go_enter Tryz.func24, Tryz.ntmps24
   go_wp2_with fail
   go_ret
   exact ⟨z.out, Gr.refl _⟩
 have hni : ((A.length : Int) != (B.length : Int)) = false := by simp; omega
 replace hA := Hz.mk hA
 replace hB := Hz.mk hB
 replace hn := Hz.mk hn
 go_enter Tryz.func24, Tryz.ntmps24
 go_upto_region 4 with fail
 go_loopw [5] (fun x wr => ∃ j : Nat, x = .int .i64 j ∧ j ≤ A.length ∧ Hz (∀ m (h : m < A.length) (h2 : m < B.length), m < j → A[m] = B[m]) ∧ Hz (Gr w wr)) (fun x _ => A.length - (intOf x).toNat)
 case atStart => exact ⟨0, rfl, Nat.zero_le _, Hz.mk (fun m _ _ q => absurd q (Nat.not_lt_zero _)), Hz.mk (Gr.refl _)⟩
 case round =>
   obtain ⟨j, rfl, hjl, hbe, G⟩ := hrel
   by_cases hj : j < A.length
   · have hj2 : j < B.length := by rw [← hn.out]; exact hj
     have hj1 : (j : Int) < (A.length : Int) := Int.ofNat_lt.2 hj
     have hj3 : (j : Int) < (B.length : Int) := Int.ofNat_lt.2 hj2
     obtain ⟨b1, o1, rfl, k1, c1⟩ := (hA.out.gr G.out) j hj
     obtain ⟨b2, o2, rfl, k2, c2⟩ := (hB.out.gr G.out) j hj2
     have GD : Gr wr wr.drew := (Gr.refl wr).drew
     by_cases he : A[j] = B[j]
     rotate_left
     · have hei : (A[j] != B[j]) = true := by simpa using he
       have z : Hz (Says (A = B) (.returned (.bool false))) := Hz.mk ⟨false, rfl, iff_of_false (by decide) (fun q => he (by subst q; rfl))⟩
       clear he
       go_upto_region 6 with fail
       refine wp_region_held_drew (S := (fun W => W.cell? ⟨b1, o1 + j, none⟩ = some (.int .u64 (A[j]'hj)) ∧ W.cell? ⟨b2, o2 + j, none⟩ = some (.int .u64 (B[j]'hj2)))) (by kernel_rfl) (⟨(T.cell_of_block (GD.below.block b1 k1) _).trans c1, (T.cell_of_block (GD.below.block b2 k2) _).trans c2⟩) (fun hHeld => ?_)
       refine xso 0 ?_ rfl ?_ (xso 1 ?_ rfl ?_ (xso 2 ?_ rfl ?_ (xso 3 ?_ rfl ?_ (xso 4 ?_ rfl ?_ (xso 5 ?_ rfl ?_ (xso 6 ?_ rfl ?_ (xso 7 ?_ rfl ?_ (xso 8 ?_ rfl ?_ ?_))))))))
       iterate 9 (rotate_left; focus ((try simp only [xap]); intro w hSw; (try dsimp only at hSw); go_simp; first | done | with_reducible rfl))
       try simp only [xap]
       refine xdn ?_ _
       clear hHeld
       go_wp2_with fail
       go_ret
       exact ⟨z.out, G.out.trans GD⟩
     have hei : (A[j] != B[j]) = false := by simpa using he
     have hbe2 : Hz (∀ m (h : m < A.length) (h2 : m < B.length), m < j + 1 → A[m] = B[m]) := Hz.mk (fun m h h2 q => by
       by_cases e : m < j
       · exact hbe.out m h h2 e
       · obtain rfl : m = j := by omega
         exact he)
     replace he := Hz.mk he
     go_upto_region 6 with fail
     refine wp_region_held_drew (S := (fun W => W.cell? ⟨b1, o1 + j, none⟩ = some (.int .u64 (A[j]'hj)) ∧ W.cell? ⟨b2, o2 + j, none⟩ = some (.int .u64 (B[j]'hj2)))) (by kernel_rfl) (⟨(T.cell_of_block (GD.below.block b1 k1) _).trans c1, (T.cell_of_block (GD.below.block b2 k2) _).trans c2⟩) (fun hHeld => ?_)
     refine xso 0 ?_ rfl ?_ (xso 1 ?_ rfl ?_ (xso 2 ?_ rfl ?_ (xso 3 ?_ rfl ?_ (xso 4 ?_ rfl ?_ (xso 5 ?_ rfl ?_ (xso 6 ?_ rfl ?_ (xso 7 ?_ rfl ?_ (xso 8 ?_ rfl ?_ ?_))))))))
     iterate 9 (rotate_left; focus ((try simp only [xap]); intro w hSw; (try dsimp only at hSw); go_simp; first | done | with_reducible rfl))
     try simp only [xap]
     refine xdn ?_ _
     clear hHeld
     have G4 := Hz.mk (G.out.trans GD)
     clear hbe G GD he
     go_wp2_with fail
     refine ⟨⟨j + 1, ?_, hj, hbe2, G4⟩, ?_⟩
     · first | rfl | (rw [show wrap64 ((j : Int) + 1) = ((j + 1 : Nat) : Int) by unfold wrap64; omega]) | go_num
     · first | (simp [intOf]; omega) | (rw [show wrap64 ((j : Int) + 1) = ((j + 1 : Nat) : Int) by unfold wrap64; omega]; simp [intOf]; omega)
   · have hj1 : ¬ (j : Int) < (A.length : Int) := fun q => hj (Int.ofNat_lt.1 q)
     have z : Hz (Says (A = B) (.returned (.bool true))) := Hz.mk ⟨true, rfl, iff_of_true rfl (List.ext_getElem hn.out (fun m h h2 => hbe.out m h h2 (by omega)))⟩
     go_wp2_with fail
     go_ret
     exact ⟨z.out, G.out⟩
end Z
end Go.Proofs.YthfphgjjieddjaaGreat


namespace Go.Proofs.YthfphgjjieddjaaGreat
set_option maxRecDepth 100000
set_option maxHeartbeats 40000000
namespace Z
open Go.RowKit
open T (Sep Ob Kp Mf FlIn boxOb)

theorem entry_none (R : Rp) (ca ga : Option Addr) (cc gc : Nat) (mem : ByteArray) (gate : Int) (v : Value) (w : World) (h : R.gates.length = 0 ∨ gate < 0) :
   Calls Tryz.prog 21 #[.agg #[.slice ca R.code.length cc, .slice ga R.gates.length gc, .string mem, .int .i64 R.dep], .int .i64 gate, v] w fun x w' => x = .returned (.tuple #[.int .i64 gate, v]) ∧ Gr w w' := by
 go_enter Tryz.func21, Tryz.ntmps21
 go_upto_region 1 with fail
 refine wp_world (fun W => At W w.heap.size #[.slice ca R.code.length cc, .slice ga R.gates.length gc, .string mem, .int .i64 R.dep] ∧ Gr w W) ⟨At.new w _ _, (Gr.refl _).alloc _⟩ ?_
 rintro W ⟨hQ, G⟩
 have hks : Hz (w.heap.size < W.heap.size) := Hz.mk hQ.1
 have d1 : W.cell? ⟨w.heap.size, 1, none⟩ = some (.slice ga R.gates.length gc) := hQ.2.1 1
 generalize w.heap.size = kp at *
 by_cases h0 : R.gates.length = 0
 · have hz : ((R.gates.length : Int) == 0) = true := by simp [h0]
   clear h h0
   go_wp2_with fail
   go_ret2
   exact ⟨rfl, G⟩
 · have hz : ((R.gates.length : Int) == 0) = false := beq_false_of_ne (by omega)
   have hg : gate < 0 := by
     rcases h with q | q
     · exact absurd q h0
     · exact q
   clear h h0
   go_wp2_with fail
   go_ret2
   exact ⟨rfl, G⟩
theorem own_monoZ {w : World} {lo lo2 e s n : Nat} {v : Value} {xs : List Value} (h : w.ownsRow lo e s v n xs) (hl : lo2 ≤ lo) : w.ownsRow lo2 e s v n xs := by
 refine ⟨h.1, ?_⟩
 rcases h.2 with q | ⟨g, cap, cur, e1, e2, e3⟩
 · exact .inl q
 · exact .inr ⟨g, cap, cur, e1, Nat.le_trans hl e2, e3⟩
def entL (A : List Int) (n : Nat) : List Int := (List.range n).map fun i => A.getD i (i : Int)
theorem entL_len (A : List Int) (n : Nat) : (entL A n).length = n := by simp [entL]
theorem entL_succ (A : List Int) (n : Nat) : entL A (n + 1) = entL A n ++ [A.getD n (n : Int)] := by simp [entL, List.range_succ]
theorem entry_any (R : Rp) (ca ga : Option Addr) (cc gc : Nat) (mem : ByteArray) (gate g : Nat) (A : List Int) (sa : Option Addr) (sc : Nat) (w : World) (hP : RpIn w ca ga R) (hA : WIn w sa A) (h0 : 0 < R.gates.length) (hg : g = gate % R.gates.length) (hgl : g < R.gates.length) (n : Nat) (hn : n ≤ 20) (hn2 : (n : Int) = R.gates[g].a ∨ (R.gates[g].a < 0 ∧ n = 0) ∨ (20 < R.gates[g].a ∧ n = 20)) :
   Calls Tryz.prog 21 #[.agg #[.slice ca R.code.length cc, .slice ga R.gates.length gc, .string mem, .int .i64 R.dep], .int .i64 gate, .slice sa A.length sc] w fun x w' => ∃ v, x = .returned (.tuple #[.int .i64 g, v]) ∧ w'.ownsRow w.heap.size 34 1 v n ((entL A n).map u64I) ∧ Below w.heap.size w w' := by
 have hz : ((R.gates.length : Int) == 0) = false := beq_false_of_ne (by omega)
 have hrm : Int.tmod (gate : Int) (R.gates.length : Int) = (g : Int) := by rw [hg]; rfl
 have hgi : (g : Int) < (R.gates.length : Int) := Int.ofNat_lt.2 hgl
 go_enter Tryz.func21, Tryz.ntmps21
 go_upto_region 1 with fail
 refine wp_world (fun W => At W w.heap.size #[.slice ca R.code.length cc, .slice ga R.gates.length gc, .string mem, .int .i64 R.dep] ∧ Gr w W) ⟨At.new w _ _, (Gr.refl _).alloc _⟩ ?_
 rintro W ⟨hQ, G⟩
 have hks : Hz (w.heap.size < W.heap.size) := Hz.mk hQ.1
 have d1 : W.cell? ⟨w.heap.size, 1, none⟩ = some (.slice ga R.gates.length gc) := hQ.2.1 1
 obtain ⟨gb, goff, rfl, hgb, hgr⟩ := (hP.gr G).gate g hgl
 have d5 : W.cell? ⟨gb, goff + g * 19 + 1, none⟩ = some (.int .i64 R.gates[g].a) := hgr 1 _ rfl
 obtain ⟨ga0, hga⟩ : ∃ z, R.gates[g].a = z := ⟨_, rfl⟩
 rw [hga] at d5 hn2
 replace hA := Hz.mk (hA.gr G)
 replace hg := Hz.mk hg
 replace hgr := Hz.mk hgr
 clear hP hga
 go_upto_region 6 with fail
 replace d1 := Hz.mk d1
 replace d5 := Hz.mk d5
 go_loopw [9, 10] (fun v x wr => ∃ (la : Option Addr) (lc j : Nat), v = .slice la j lc ∧ x = .int .i64 j ∧ j ≤ n ∧ Hz (wr.ownsRow W.heap.size 34 1 (.slice la j lc) j ((entL A j).map u64I)) ∧ Hz (Below W.heap.size W wr)) (fun _ x _ => n - (intOf x).toNat)
 case atStart => exact ⟨none, 0, 0, rfl, rfl, Nat.zero_le _, Hz.mk (World.ownsRow_nil _ _ _ _), Hz.mk (Below.refl _ _)⟩
 case round =>
   obtain ⟨la, lc, j, rfl, rfl, hj, hown, hB⟩ := hrel
   have e1 := (T.cell_of_block (hB.out.block w.heap.size hks.out) 1).trans d1.out
   have e5 := (T.cell_of_block (hB.out.block gb hgb) _).trans d5.out
   by_cases hlt : j < n
   · have q1 : (j : Int) < ga0 := by omega
     have q2 : (j : Int) < 20 := by omega
     by_cases hja : j < A.length
     · have hji : (j : Int) < (A.length : Int) := Int.ofNat_lt.2 hja
       obtain ⟨ab, ao, rfl, hab, hac⟩ := hA.out j hja
       have e7 := (T.cell_of_block (hB.out.block ab hab) _).trans hac
       have hvl : Hz (A.getD j (j : Int) = A[j]) := Hz.mk (by simp [hja])
       go_upto_region 11 with fail
       clear e7
       refine wp_region_lit ?_
       iterate 3 (refine wpList_plain rfl (fun K hK => ?_); go_simp; with_reducible refine hK _ _ ?_; clear hK K; (try simp only [xap]))
       have hX : At (wr.alloc (.cells #[.int .u64 (A[j]'hja)] 34)) wr.heap.size #[.int .u64 (A[j]'hja)] := At.new wr _ _
       have ho2 : (wr.alloc (.cells #[.int .u64 (A[j]'hja)] 34)).ownsRow W.heap.size 34 1 (.slice la j lc) j ((entL A j).map u64I) := hown.out.alloc _
       have hB2 : Hz (Below W.heap.size W (wr.alloc (.cells #[.int .u64 (A[j]'hja)] 34))) := Hz.mk (hB.out.alloc hB.out.size _)
       generalize hVV : wr.alloc (.cells #[.int .u64 (A[j]'hja)] 34) = V at *
       clear hVV
       generalize wr.heap.size = kX at *
       refine wpList_plain rfl (fun K hK => ?_)
       refine wp_append_z _ _ 26 34 (.int .u64 0) 1 8 rfl Tryz.underlying26 (by kernel_rfl) (by kernel_rfl) (by decide) (by decide) W.heap.size (.slice la j lc) j ((entL A j).map u64I) [.int .u64 (A[j]'hja)] (by rfl) ho2 kX (by rfl) hX rfl (by simp [Value.oneCell']) (by omega) hB2.out.size ?_
       intro g9 cap w9 k1 k2 k3
       have hB3 : Hz (Below W.heap.size W w9) := Hz.mk (hB2.out.trans ⟨k2.os, k2.tape, k2.output, k2.size, fun k hk => k2.block k (Nat.lt_of_lt_of_le hk hB2.out.size) (fun e => by have := (ho2.lt k e.symm).1; omega)⟩)
       have k4 : Hz (w9.ownsRow W.heap.size 34 1 (.slice (some ⟨g9, 0, none⟩) (j + 1) cap) (j + 1) ((entL A (j + 1)).map u64I)) := Hz.mk (by rw [entL_succ, List.map_append, hvl.out]; exact k1)
       clear k1 k2 k3 ho2 hX hB2 hB hown e1 e5
       refine hK _ _ ?_
       clear hK K
       try simp only [xap]
       go_wp2_with fail
       refine ⟨⟨_, _, j + 1, rfl, ?_, hlt, k4, hB3⟩, ?_⟩
       · first | rfl | (rw [show wrap64 ((j : Int) + 1) = ((j + 1 : Nat) : Int) by unfold wrap64; omega]) | go_num
       · first | (simp [intOf]; omega) | (rw [show wrap64 ((j : Int) + 1) = ((j + 1 : Nat) : Int) by unfold wrap64; omega]; simp [intOf]; omega)
     · have hji : ¬ (j : Int) < (A.length : Int) := fun q => hja (Int.ofNat_lt.1 q)
       have hwr : IntKind.u64.wrap (j : Int) = (j : Int) := by rw [IntKind.wrap_u64]; omega
       have hvl : Hz (A.getD j (j : Int) = (j : Int)) := Hz.mk (by simp [hja])
       go_upto_region 11 with fail
       refine wp_region_lit ?_
       iterate 3 (refine wpList_plain rfl (fun K hK => ?_); go_simp; with_reducible refine hK _ _ ?_; clear hK K; (try simp only [xap]))
       have hX : At (wr.alloc (.cells #[.int .u64 (j : Int)] 34)) wr.heap.size #[.int .u64 (j : Int)] := At.new wr _ _
       have ho2 : (wr.alloc (.cells #[.int .u64 (j : Int)] 34)).ownsRow W.heap.size 34 1 (.slice la j lc) j ((entL A j).map u64I) := hown.out.alloc _
       have hB2 : Hz (Below W.heap.size W (wr.alloc (.cells #[.int .u64 (j : Int)] 34))) := Hz.mk (hB.out.alloc hB.out.size _)
       generalize hVV : wr.alloc (.cells #[.int .u64 (j : Int)] 34) = V at *
       clear hVV
       generalize wr.heap.size = kX at *
       refine wpList_plain rfl (fun K hK => ?_)
       refine wp_append_z _ _ 26 34 (.int .u64 0) 1 8 rfl Tryz.underlying26 (by kernel_rfl) (by kernel_rfl) (by decide) (by decide) W.heap.size (.slice la j lc) j ((entL A j).map u64I) [.int .u64 (j : Int)] (by rfl) ho2 kX (by rfl) hX rfl (by simp [Value.oneCell']) (by omega) hB2.out.size ?_
       intro g9 cap w9 k1 k2 k3
       have hB3 : Hz (Below W.heap.size W w9) := Hz.mk (hB2.out.trans ⟨k2.os, k2.tape, k2.output, k2.size, fun k hk => k2.block k (Nat.lt_of_lt_of_le hk hB2.out.size) (fun e => by have := (ho2.lt k e.symm).1; omega)⟩)
       have k4 : Hz (w9.ownsRow W.heap.size 34 1 (.slice (some ⟨g9, 0, none⟩) (j + 1) cap) (j + 1) ((entL A (j + 1)).map u64I)) := Hz.mk (by rw [entL_succ, List.map_append, hvl.out]; exact k1)
       clear k1 k2 k3 ho2 hX hB2 hB hown e1 e5
       refine hK _ _ ?_
       clear hK K
       try simp only [xap]
       go_wp2_with fail
       refine ⟨⟨_, _, j + 1, rfl, ?_, hlt, k4, hB3⟩, ?_⟩
       · first | rfl | (rw [show wrap64 ((j : Int) + 1) = ((j + 1 : Nat) : Int) by unfold wrap64; omega]) | go_num
       · first | (simp [intOf]; omega) | (rw [show wrap64 ((j : Int) + 1) = ((j + 1 : Nat) : Int) by unfold wrap64; omega]; simp [intOf]; omega)
   · obtain rfl : j = n := by omega
     have hres := Hz.mk (And.intro (own_monoZ hown.out G.below.size) ((G.below.trans (hB.out.mono G.below.size))))
     by_cases q1 : (j : Int) < ga0
     · have q2 : ¬ (j : Int) < 20 := by omega
       go_wp2_with fail
       go_ret2
       exact ⟨_, rfl, hres.out⟩
     · go_wp2_with fail
       go_ret2
       exact ⟨_, rfl, hres.out⟩
end Z
end Go.Proofs.YthfphgjjieddjaaGreat
