import Derived.Test.YthfphgjjieddjaaGreatP51
import Derived.Test.YthfphgjjieddjaaGreatP50
namespace Go.Proofs.YthfphgjjieddjaaGreat
set_option maxRecDepth 100000
set_option maxHeartbeats 40000000
namespace Z
open Go.RowKit
open T (Sep Ob Kp Mf FlIn boxOb)

theorem walk_FastvmNew (R : Rp) (ca ga : Option Addr) (cc gc : Nat) (mem : List UInt8) (gate : Int) (A : List Int) (sa : Option Addr) (sc : Nat) (ia : Option Addr) (ic : Nat) (L : List Int) (w : World) (hb : Bgn w R ca ga mem A sa ia ic L) (hcap : ∀ a, ia = some a → L.length ≤ ic) (hAl : A.length ≤ 2000000) :
   Calls Tryz.prog 3 #[.agg #[.slice ca R.code.length cc, .slice ga R.gates.length gc, .string (T.str mem), .int .i64 R.dep], .int .i64 gate, .slice sa A.length sc, .slice ia L.length ic] w fun x w' => x = .returned (.bool true) ∧ Below w.heap.size w w' := by
 replace hb := Hz.mk hb
 replace hcap := Hz.mk hcap
 by_cases hok : R.Ok (T.str mem).size ∧ 0 ≤ gate ∧ gate < (R.gates.length : Int)
 rotate_left
 · replace hok := Hz.mk hok
   go_enter Tryz.func3, Tryz.ntmps3
   go_upto_region 1 with fail
   refine wp_world (fun W => At W w.heap.size #[.slice ca R.code.length cc, .slice ga R.gates.length gc, .string (T.str mem), .int .i64 R.dep] ∧ Gr w W) ⟨At.new w _ _, (Gr.refl _).alloc _⟩ ?_
   rintro W ⟨hQ, G⟩
   have hkp := hQ.1
   replace hb := Hz.mk (hb.out.below G.below)
   go_wp2_with fail
   refine (examples_any W).mono ?_
   rintro r V1 ⟨rfl, hB⟩
   replace hQ := Hz.mk (at_below hQ hB hkp)
   replace hb := Hz.mk (hb.out.below hB)
   replace G := Hz.mk (G.below.trans (hB.mono (Nat.le_of_lt hkp)))
   replace hkp := Hz.mk (Nat.lt_of_lt_of_le hkp hB.size)
   clear hB
   have d0 : V1.cell? ⟨w.heap.size, 0, none⟩ = some (.slice ca R.code.length cc) := hQ.out.2.1 0
   have d1 : V1.cell? ⟨w.heap.size, 1, none⟩ = some (.slice ga R.gates.length gc) := hQ.out.2.1 1
   have d2 : V1.cell? ⟨w.heap.size, 2, none⟩ = some (.string (T.str mem)) := hQ.out.2.1 2
   have d3 : V1.cell? ⟨w.heap.size, 3, none⟩ = some (.int .i64 R.dep) := hQ.out.2.1 3
   have hmd := Hz.mk (made_no70 R ca ga cc gc mem gate A sa sc ia ic L V1 hb.out.hP hb.out.wd.code hb.out.hA hAl hb.out.hI hb.out.c hb.out.r hb.out.g hb.out.l hok.out)
   go_wp2_with fail
   refine hmd.out.mono ?_
   rintro r V2 ⟨rfl, hB⟩
   clear d0 d1 d2 d3 hmd
   replace hQ := Hz.mk (at_below hQ.out hB hkp.out)
   replace hb := Hz.mk (hb.out.below hB)
   replace G := Hz.mk (G.out.trans (hB.mono (Nat.le_of_lt hkp.out)))
   replace hkp := Hz.mk (Nat.lt_of_lt_of_le hkp.out hB.size)
   clear hB
   have d0 : V2.cell? ⟨w.heap.size, 0, none⟩ = some (.slice ca R.code.length cc) := hQ.out.2.1 0
   have d1 : V2.cell? ⟨w.heap.size, 1, none⟩ = some (.slice ga R.gates.length gc) := hQ.out.2.1 1
   have d2 : V2.cell? ⟨w.heap.size, 2, none⟩ = some (.string (T.str mem)) := hQ.out.2.1 2
   have d3 : V2.cell? ⟨w.heap.size, 3, none⟩ = some (.int .i64 R.dep) := hQ.out.2.1 3
   have htn := Hz.mk (turned_any R ca ga cc gc mem gate A sa sc ia ic L V2 hb.out hAl)
   go_wp2_with fail
   refine htn.out.mono ?_
   rintro r V3 ⟨rfl, hB⟩
   clear d0 d1 d2 d3 htn
   replace hQ := Hz.mk (at_below hQ.out hB hkp.out)
   replace hb := Hz.mk (hb.out.below hB)
   replace G := Hz.mk (G.out.trans (hB.mono (Nat.le_of_lt hkp.out)))
   replace hkp := Hz.mk (Nat.lt_of_lt_of_le hkp.out hB.size)
   clear hB
   have hmn := Hz.mk (many_any V3)
   go_wp2_with fail
   refine hmn.out.mono ?_
   rintro r V4 ⟨rfl, hB⟩
   replace hQ := Hz.mk (at_below hQ.out hB hkp.out)
   replace hb := Hz.mk (hb.out.below hB)
   replace G := Hz.mk (G.out.trans (hB.mono (Nat.le_of_lt hkp.out)))
   replace hkp := Hz.mk (Nat.lt_of_lt_of_le hkp.out hB.size)
   clear hB hmn
   go_wp2_with fail
   go_ret
   exact ⟨rfl, G.out⟩
 replace hok := Hz.mk hok
 have hgn : gate = ((gate.toNat : Nat) : Int) := by have := hok.out.2.1; omega
 have hgl : gate.toNat < R.gates.length := by have := hok.out.2.2; omega
 generalize gate.toNat = gn at *
 subst hgn
 have okm : Hz (R.Ok mem.length) := Hz.mk (by have := hok.out.1; rw [T.str_size] at this; exact this)
 by_cases hna : (A.length : Int) = R.gates[gn].a
 rotate_left
 · replace hna := Hz.mk hna
   go_enter Tryz.func3, Tryz.ntmps3
   go_upto_region 1 with fail
   refine wp_world (fun W => At W w.heap.size #[.slice ca R.code.length cc, .slice ga R.gates.length gc, .string (T.str mem), .int .i64 R.dep] ∧ Gr w W) ⟨At.new w _ _, (Gr.refl _).alloc _⟩ ?_
   rintro W ⟨hQ, G⟩
   have hkp := hQ.1
   replace hb := Hz.mk (hb.out.below G.below)
   go_wp2_with fail
   refine (examples_any W).mono ?_
   rintro r V1 ⟨rfl, hB⟩
   replace hQ := Hz.mk (at_below hQ hB hkp)
   replace hb := Hz.mk (hb.out.below hB)
   replace G := Hz.mk (G.below.trans (hB.mono (Nat.le_of_lt hkp)))
   replace hkp := Hz.mk (Nat.lt_of_lt_of_le hkp hB.size)
   clear hB
   have d0 : V1.cell? ⟨w.heap.size, 0, none⟩ = some (.slice ca R.code.length cc) := hQ.out.2.1 0
   have d1 : V1.cell? ⟨w.heap.size, 1, none⟩ = some (.slice ga R.gates.length gc) := hQ.out.2.1 1
   have d2 : V1.cell? ⟨w.heap.size, 2, none⟩ = some (.string (T.str mem)) := hQ.out.2.1 2
   have d3 : V1.cell? ⟨w.heap.size, 3, none⟩ = some (.int .i64 R.dep) := hQ.out.2.1 3
   have hmd := Hz.mk (made_no71 R ca ga cc gc mem gn A sa sc ia ic L V1 hb.out.hP hb.out.wd.code hb.out.hA hAl hb.out.hI hb.out.c hb.out.r hb.out.g hb.out.l hok.out.1 hgl hna.out)
   go_wp2_with fail
   refine hmd.out.mono ?_
   rintro r V2 ⟨rfl, hB⟩
   clear d0 d1 d2 d3 hmd
   replace hQ := Hz.mk (at_below hQ.out hB hkp.out)
   replace hb := Hz.mk (hb.out.below hB)
   replace G := Hz.mk (G.out.trans (hB.mono (Nat.le_of_lt hkp.out)))
   replace hkp := Hz.mk (Nat.lt_of_lt_of_le hkp.out hB.size)
   clear hB
   have d0 : V2.cell? ⟨w.heap.size, 0, none⟩ = some (.slice ca R.code.length cc) := hQ.out.2.1 0
   have d1 : V2.cell? ⟨w.heap.size, 1, none⟩ = some (.slice ga R.gates.length gc) := hQ.out.2.1 1
   have d2 : V2.cell? ⟨w.heap.size, 2, none⟩ = some (.string (T.str mem)) := hQ.out.2.1 2
   have d3 : V2.cell? ⟨w.heap.size, 3, none⟩ = some (.int .i64 R.dep) := hQ.out.2.1 3
   have htn := Hz.mk (turned_any R ca ga cc gc mem gn A sa sc ia ic L V2 hb.out hAl)
   go_wp2_with fail
   refine htn.out.mono ?_
   rintro r V3 ⟨rfl, hB⟩
   clear d0 d1 d2 d3 htn
   replace hQ := Hz.mk (at_below hQ.out hB hkp.out)
   replace hb := Hz.mk (hb.out.below hB)
   replace G := Hz.mk (G.out.trans (hB.mono (Nat.le_of_lt hkp.out)))
   replace hkp := Hz.mk (Nat.lt_of_lt_of_le hkp.out hB.size)
   clear hB
   have hmn := Hz.mk (many_any V3)
   go_wp2_with fail
   refine hmn.out.mono ?_
   rintro r V4 ⟨rfl, hB⟩
   replace hQ := Hz.mk (at_below hQ.out hB hkp.out)
   replace hb := Hz.mk (hb.out.below hB)
   replace G := Hz.mk (G.out.trans (hB.mono (Nat.le_of_lt hkp.out)))
   replace hkp := Hz.mk (Nat.lt_of_lt_of_le hkp.out hB.size)
   clear hB hmn
   go_wp2_with fail
   go_ret
   exact ⟨rfl, G.out⟩
 replace hna := Hz.mk hna
 go_enter Tryz.func3, Tryz.ntmps3
 go_upto_region 1 with fail
 refine wp_world (fun W => At W w.heap.size #[.slice ca R.code.length cc, .slice ga R.gates.length gc, .string (T.str mem), .int .i64 R.dep] ∧ Gr w W) ⟨At.new w _ _, (Gr.refl _).alloc _⟩ ?_
 rintro W ⟨hQ, G⟩
 have hkp := hQ.1
 replace hb := Hz.mk (hb.out.below G.below)
 go_wp2_with fail
 refine (examples_any W).mono ?_
 rintro r V1 ⟨rfl, hB⟩
 replace hQ := Hz.mk (at_below hQ hB hkp)
 replace hb := Hz.mk (hb.out.below hB)
 replace G := Hz.mk (G.below.trans (hB.mono (Nat.le_of_lt hkp)))
 replace hkp := Hz.mk (Nat.lt_of_lt_of_le hkp hB.size)
 clear hB
 have d0 : V1.cell? ⟨w.heap.size, 0, none⟩ = some (.slice ca R.code.length cc) := hQ.out.2.1 0
 have d1 : V1.cell? ⟨w.heap.size, 1, none⟩ = some (.slice ga R.gates.length gc) := hQ.out.2.1 1
 have d2 : V1.cell? ⟨w.heap.size, 2, none⟩ = some (.string (T.str mem)) := hQ.out.2.1 2
 have d3 : V1.cell? ⟨w.heap.size, 3, none⟩ = some (.int .i64 R.dep) := hQ.out.2.1 3
 have hmd := Hz.mk (made_ok R ca ga cc gc mem gn A sa sc ia ic L V1 hb.out.hP hb.out.wd.code hb.out.hA hAl hb.out.hI hb.out.c hb.out.r hb.out.g hb.out.l hcap.out okm.out hgl hna.out)
 go_wp2_with fail
 refine hmd.out.mono ?_
 rintro r V2 ⟨a, b, rfl, hM, _, hB⟩
 replace hM := Hz.mk hM
 have hwB : Hz (w.heap.size ≤ V1.heap.size) := Hz.mk (Nat.le_of_lt hkp.out)
 clear d0 d1 d2 d3 hmd
 replace hQ := Hz.mk (at_below hQ.out hB hkp.out)
 replace hb := Hz.mk (hb.out.below hB)
 replace G := Hz.mk (G.out.trans (hB.mono (Nat.le_of_lt hkp.out)))
 replace hkp := Hz.mk (Nat.lt_of_lt_of_le hkp.out hB.size)
 clear hB
 obtain ⟨c, hc⟩ : ∃ c : Dc, ⟨ca, ga, cc, gc, .string (T.str mem)⟩ = c := ⟨_, rfl⟩
 rw [hc] at hM
 clear hc
 obtain ⟨s, hs0⟩ : ∃ s, start R.gates[gn].fg gn A.length (srcA A) L mem = s := ⟨_, rfl⟩
 rw [hs0] at hM
 have hou : Hz (s.out.length = 0 ∧ s.tc.length = 0) := Hz.mk (by rw [← hs0]; exact ⟨rfl, rfl⟩)
 clear hs0
 generalize R.pr = P at *
 generalize V1.heap.size = B at *
 have d0 : V2.cell? ⟨w.heap.size, 0, none⟩ = some (.slice ca R.code.length cc) := hQ.out.2.1 0
 have d1 : V2.cell? ⟨w.heap.size, 1, none⟩ = some (.slice ga R.gates.length gc) := hQ.out.2.1 1
 have d2 : V2.cell? ⟨w.heap.size, 2, none⟩ = some (.string (T.str mem)) := hQ.out.2.1 2
 have d3 : V2.cell? ⟨w.heap.size, 3, none⟩ = some (.int .i64 R.dep) := hQ.out.2.1 3
 have htn := Hz.mk (turned_any R ca ga cc gc mem gn A sa sc ia ic L V2 hb.out hAl)
 go_wp2_with fail
 refine htn.out.mono ?_
 rintro r V3 ⟨rfl, hB⟩
 clear d0 d1 d2 d3 htn
 replace hM := Hz.mk (hM.out.gr hB)
 replace hQ := Hz.mk (at_below hQ.out hB hkp.out)
 replace hb := Hz.mk (hb.out.below hB)
 replace G := Hz.mk (G.out.trans (hB.mono (Nat.le_of_lt hkp.out)))
 replace hkp := Hz.mk (Nat.lt_of_lt_of_le hkp.out hB.size)
 clear hB
 have hmn := Hz.mk (many_any V3)
 go_wp2_with fail
 refine hmn.out.mono ?_
 rintro r V4 ⟨rfl, hB⟩
 replace hM := Hz.mk (hM.out.gr hB)
 replace hQ := Hz.mk (at_below hQ.out hB hkp.out)
 replace hb := Hz.mk (hb.out.below hB)
 replace G := Hz.mk (G.out.trans (hB.mono (Nat.le_of_lt hkp.out)))
 replace hkp := Hz.mk (Nat.lt_of_lt_of_le hkp.out hB.size)
 clear hB hmn
 clear hQ hb hkp
 have hlv := Hz.mk (level_any B V4 P a b c s hM.out (by have := hou.out; omega) (by have := hou.out; omega))
 go_wp2_with fail
 refine hlv.out.mono ?_
 rintro r X9 ⟨rfl, hb9⟩
 replace G := Hz.mk (G.out.trans (hb9.mono (Nat.le_trans hwB.out hM.out.le)))
 replace hM := Hz.mk (hM.out.gr hb9)
 clear hlv hb9
 obtain ⟨lx, hX⟩ := hM.out.oneX
 have hsx := Hz.mk (snap_any B X9 a P s lx hX)
 clear hX
 go_wp2_with fail
 refine hsx.out.mono ?_
 rintro r X5 ⟨rfl, g5⟩
 replace G := Hz.mk (G.out.trans (g5.below.mono (Nat.le_trans hwB.out hM.out.le)))
 replace hM := Hz.mk (hM.out.gr g5.below)
 clear g5 hsx
 obtain ⟨ly, hY⟩ := hM.out.oneY
 have hsy := Hz.mk (dsnap_any B X5 b c P s s.g s.p ly hY)
 clear hY
 go_wp2_with fail
 refine hsy.out.mono ?_
 rintro r X6 ⟨rfl, g6⟩
 replace G := Hz.mk (G.out.trans (g6.below.mono (Nat.le_trans hwB.out hM.out.le)))
 clear g6 hsy
 have hne := sn_eql s.g s.p s.st.length s.r
 generalize (snV s.g s.p s.st.length s.r).toArray = sv at *
 go_wp2_with fail
 go_ret
 exact ⟨rfl, G.out⟩
end Z
end Go.Proofs.YthfphgjjieddjaaGreat
