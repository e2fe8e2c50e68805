import Derived.Test.YtmedafcmfbhjkaaGreatP48
import Derived.Test.YtmedafcmfbhjkaaGreatZBck
import Derived.Test.YtmedafcmfbhjkaaGreatP50
import Derived.Test.YtmedafcmfbhjkaaGreatP51
import Derived.OwnWalk
import Derived.Test.YtmedafcmfbhjkaaGreatP44
import Derived.Test.YtmedafcmfbhjkaaGreatP43
import Derived.Test.YtmedafcmfbhjkaaGreatP30
import Derived.Test.YtmedafcmfbhjkaaGreatP36
import Derived.Test.YtmedafcmfbhjkaaGreatP31
namespace Go.Proofs.YtmedafcmfbhjkaaGreat
set_option maxRecDepth 100000
set_option maxHeartbeats 40000000
namespace Z
open Go.RowKit
open T (Sep Ob Kp Mf FlIn boxOb)

theorem LnA.low {lo lo' hi : Nat} {W : World} {kc kg : Nat} {K : Nat → Nat} {rv : Value} {R : Rp} (h : LnA lo hi W kc kg K rv R) (hl : lo' ≤ lo) : LnA lo' hi W kc kg K rv R :=
 ⟨h.row, fun j hj => ⟨⟨by have := (h.done j hj).1.1; omega, (h.done j hj).1.2⟩, (h.done j hj).2⟩, h.inj, own_monoZ h.own hl, h.ap, h.gates, ⟨by have := h.kc_.1; omega, h.kc_.2⟩, ⟨by have := h.kg_.1; omega, h.kg_.2⟩, h.ne⟩
theorem LnA.inS {lo hi : Nat} {W : World} {kc kg : Nat} {K : Nat → Nat} {rv : Value} {R : Rp} (h : LnA lo hi W kc kg K rv R) {k : Nat} (q : LnS kc kg K R.code.length k) : lo ≤ k ∧ k < hi := by
 rcases q with rfl | rfl | ⟨j, hj, rfl⟩
 · exact h.kc_
 · exact h.kg_
 · exact (h.done j hj).1
theorem made_no70 (R : Rp) (ca ga : Option Addr) (cc gc : Nat) (mem : List UInt8) (gate : Int) (A : List Int) (sa : Option Addr) (sc : Nat) (ia : Option Addr) (ic : Nat) (L : List Int) (w : World) (hP : RpIn w ca ga R) (is : R.Is) (hA : WIn w sa A) (hAl : A.length ≤ 2000000) (hI : InL w ia ic L) (hc : R.code.length ≤ 1500000) (hr : ∀ r ∈ R.code, r.length ≤ 2000000) (hg : R.gates.length ≤ 2000000) (hl : L.length ≤ 2000000) (h : ¬ (R.Ok (T.str mem).size ∧ 0 ≤ gate ∧ gate < (R.gates.length : Int))) :
   Calls Tryz.prog 7 #[.agg #[.slice ca R.code.length cc, .slice ga R.gates.length gc, .string (T.str mem), .int .i64 R.dep], .int .i64 gate, .slice sa A.length sc, .slice ia L.length ic] w fun x w' => x = .returned (.tuple #[.bool true, .pointer none, .pointer none]) ∧ Below w.heap.size w w' := by
 replace hA := Hz.mk hA
 replace hI := Hz.mk hI
 replace hr := Hz.mk hr
 replace hP := Hz.mk hP
 replace is := Hz.mk is
 go_enter Tryz.func7, Tryz.ntmps7
 go_upto_region 1 with fail
 refine wp_world (fun W => At W w.heap.size #[.slice ca R.code.length cc, .slice ga R.gates.length gc, .string (T.str mem), .int .i64 R.dep] ∧ Gr w W) ⟨At.new w _ _, (Gr.refl _).alloc _⟩ ?_
 rintro W ⟨hQ, G⟩
 have hB := Hz.mk G.below
 obtain ⟨km, hkm⟩ : ∃ km, w.heap.size = km := ⟨_, rfl⟩
 rw [hkm] at hQ ⊢
 have hkl := Hz.mk hQ.1
 have hw1 := Hz.mk (words_any A sa sc W (hA.out.below hB.out) hAl)
 replace hQ := Hz.mk hQ
 replace hkm := Hz.mk hkm
 clear G
 go_wp2_with fail
 refine hw1.out.mono ?_
 rintro r W1 ⟨ka, rfl, hka, hFa, hB1⟩
 replace hQ := Hz.mk (at_below hQ.out hB1 hkl.out)
 replace hB := Hz.mk (hB.out.trans (hB1.mono hB.out.size))
 replace hka : Hz (km < ka) := Hz.mk (Nat.lt_of_lt_of_le hkl.out hka)
 replace hkl := Hz.mk (Nat.lt_of_lt_of_le hkl.out hB1.size)
 replace hFa := Hz.mk hFa
 clear hw1 hB1
 have hw2 := Hz.mk (words_any L ia ic W1 (hI.out.win.below hB.out) hl)
 go_wp2_with fail
 refine hw2.out.mono ?_
 rintro r W2 ⟨kb, rfl, hkb, hFb, hB1⟩
 replace hQ := Hz.mk (at_below hQ.out hB1 hkl.out)
 have hab : Hz (ka < kb) := Hz.mk (Nat.lt_of_lt_of_le hFa.out.lt hkb)
 replace hFa := Hz.mk (hFa.out.bel hB1 hFa.out.lt)
 replace hB := Hz.mk (hB.out.trans (hB1.mono hB.out.size))
 replace hkl := Hz.mk (Nat.lt_of_lt_of_le hkl.out hB1.size)
 replace hFb := Hz.mk hFb
 clear hw2 hB1 hkb
 have e0 : W2.cell? ⟨km, 0, none⟩ = some (.slice ca R.code.length cc) := hQ.out.2.1 0
 have e1 : W2.cell? ⟨km, 1, none⟩ = some (.slice ga R.gates.length gc) := hQ.out.2.1 1
 have e2 : W2.cell? ⟨km, 2, none⟩ = some (.string (T.str mem)) := hQ.out.2.1 2
 have e3 : W2.cell? ⟨km, 3, none⟩ = some (.int .i64 R.dep) := hQ.out.2.1 3
 have hln := Hz.mk (lent2_any R ca ga cc gc (T.str mem) W2 (hP.out.below_ hB.out) hc hr.out hg)
 go_wp2_with fail
 refine hln.out.mono ?_
 rintro r W3 ⟨kc, kg, la, lc, K, rfl, hLn, hB1⟩
 have hlo1 : Hz (kb < W2.heap.size) := Hz.mk hFb.out.lt
 have hlo2 : Hz (W2.heap.size ≤ W3.heap.size) := Hz.mk hB1.size
 replace hQ := Hz.mk (at_below hQ.out hB1 hkl.out)
 replace hFb := Hz.mk (hFb.out.bel hB1 hFb.out.lt)
 replace hFa := Hz.mk (hFa.out.bel hB1 (by have := hab.out; have := hlo1.out; omega))
 replace hB := Hz.mk (hB.out.trans (hB1.mono hB.out.size))
 replace hkl := Hz.mk (Nat.lt_of_lt_of_le hkl.out hB1.size)
 replace hLn := Hz.mk hLn
 clear e0 e1 e2 e3 hln hB1
 generalize W2.heap.size = lo at *
 go_upto_region 4 with fail
 refine wp_world (fun V => At V W3.heap.size #[.slice (some ⟨kc, 0, none⟩) R.code.length (R.code.length + 8), .slice (some ⟨kg, 0, none⟩) R.gates.length (R.gates.length + 8), .string (T.str mem), .int .i64 R.dep] ∧ Gr W3 V) ?_ ?_
 · first | exact ⟨At.new W3 _ _, (Gr.refl _).alloc _⟩ | exact ⟨At.setAll (At.new W3 _ _) _ rfl, Gr.setCells ((Gr.refl W3).alloc _) _ (Nat.le_refl _) _ 0⟩
 rintro V ⟨hp, G2⟩
 have hhi : Hz (W3.heap.size ≤ V.heap.size) := Hz.mk G2.below.size
 have hkpl := Hz.mk hp.1
 replace hQ := Hz.mk (hQ.out.gr G2)
 replace hFa := Hz.mk (hFa.out.gr G2)
 replace hFb := Hz.mk (hFb.out.gr G2)
 replace hLn := Hz.mk (hLn.out.bel (B := W3.heap.size) (G2.below) (Nat.le_refl _))
 replace hB := Hz.mk (hB.out.trans (G2.below.mono hB.out.size))
 replace hkl := Hz.mk (Nat.lt_of_lt_of_le hkl.out G2.below.size)
 replace hp := Hz.mk hp
 have hkpn : Hz (km < W3.heap.size ∧ ka < W3.heap.size ∧ kb < W3.heap.size ∧ lo ≤ W3.heap.size) := Hz.mk (by have := hka.out; have := hab.out; have := hlo1.out; have := hlo2.out; omega)
 clear G2 hlo2
 generalize W3.heap.size = kp at *
 have d0 : V.cell? ⟨kp, 0, none⟩ = some (.slice (some ⟨kc, 0, none⟩) R.code.length (R.code.length + 8)) := hp.out.2.1 0
 have d1 : V.cell? ⟨kp, 1, none⟩ = some (.slice (some ⟨kg, 0, none⟩) R.gates.length (R.gates.length + 8)) := hp.out.2.1 1
 have d2 : V.cell? ⟨kp, 2, none⟩ = some (.string (T.str mem)) := hp.out.2.1 2
 have d3 : V.cell? ⟨kp, 3, none⟩ = some (.int .i64 R.dep) := hp.out.2.1 3
 have hnx := Hz.mk (new_no70 R (some ⟨kc, 0, none⟩) (some ⟨kg, 0, none⟩) (R.code.length + 8) (R.gates.length + 8) mem gate (some ⟨ka, 0, none⟩) A.length (A.length + 8) (.slice (some ⟨kb, 0, none⟩) L.length (L.length + 8)) V hLn.out.rp is.out h)
 go_wp2_with fail
 refine hnx.out.mono ?_
 rintro r V4 ⟨rfl, g4⟩
 clear d0 d1 d2 d3 hnx
 have hQV := hQ
 replace hQ := Hz.mk (hQ.out.gr g4)
 have e0 : V4.cell? ⟨km, 0, none⟩ = some (.slice ca R.code.length cc) := hQ.out.2.1 0
 have e1 : V4.cell? ⟨km, 1, none⟩ = some (.slice ga R.gates.length gc) := hQ.out.2.1 1
 have e2 : V4.cell? ⟨km, 2, none⟩ = some (.string (T.str mem)) := hQ.out.2.1 2
 have e3 : V4.cell? ⟨km, 3, none⟩ = some (.int .i64 R.dep) := hQ.out.2.1 3
 have hny := Hz.mk (dnew_no70 R ca ga cc gc mem gate sa A.length sc (.slice ia L.length ic) V4 (hP.out.below_ (hB.out.trans (g4.below.mono hB.out.size))) is.out hr.out h)
 go_wp2_with fail
 refine hny.out.mono ?_
 rintro r V5 ⟨rfl, g5⟩
 have hS := Hz.mk ((g4.trans g5).below)
 replace hQ : Hz (At V km #[.slice ca R.code.length cc, .slice ga R.gates.length gc, .string (T.str mem), .int .i64 R.dep]) := Hz.mk hQV.out
 clear e0 e1 e2 e3 hny g4 g5
 replace hFa := Hz.mk (hFa.out.bel hS.out hFa.out.lt)
 replace hFb := Hz.mk (hFb.out.bel hS.out hFb.out.lt)
 replace hLn := Hz.mk (hLn.out.bel hS.out hhi.out)
 replace hQ := Hz.mk (at_below hQ.out hS.out hkl.out)
 replace hp := Hz.mk (at_below hp.out hS.out hkpl.out)
 have hBw := Hz.mk (hB.out.trans (hS.out.mono hB.out.size))
 have hsz : Hz (V.heap.size ≤ V5.heap.size) := Hz.mk hS.out.size
 have hWA := Hz.mk (hA.out.below hBw.out)
 have hsp := Hz.mk (spoilt2 A ka sa sc V5 hFa.out hWA.out (fun b off e h0 => by
   obtain ⟨b2, off2, e2, e3, _⟩ := hA.out 0 h0
   rw [e] at e2
   injection e2 with e2
   injection e2 with e2
   have := hka.out; have := hkm.out; omega) hAl)
 go_wp2_with fail
 refine hsp.out.mono ?_
 rintro r V6 ⟨rfl, hk6⟩
 replace hFb := Hz.mk (hFb.out.keep hk6 (by have := hab.out; omega))
 replace hLn := Hz.mk (hLn.out.keep hk6 (fun k h1 h2 (q : k = ka) => by have := hab.out; have := hlo1.out; omega))
 replace hQ := Hz.mk (at_keep hQ.out hk6 (by have := hka.out; omega))
 replace hp := Hz.mk (at_keep hp.out hk6 (by have := hkpn.out; omega))
 replace hBw := Hz.mk (hBw.out.trans (hk6.below (B := w.heap.size) (by have := hBw.out.size; omega) (fun k (q : k = ka) => by have := hkm.out; have := hka.out; omega)))
 have hkA : Hz (Kp (fun k => w.heap.size ≤ k ∧ k < V.heap.size) V5 V6) := Hz.mk (Kp.mono hk6 (fun k (q : k = ka) => .inl (by have := hkm.out; have := hka.out; have := hkpn.out; have := hhi.out; omega)))
 replace hsz := Hz.mk (Nat.le_trans hsz.out hk6.size)
 clear hsp hWA hk6 hFa
 have hWI := Hz.mk (hI.out.win.below hBw.out)
 have hsp := Hz.mk (spoilt2 L kb ia ic V6 hFb.out hWI.out (fun b off e h0 => by
   obtain ⟨b2, off2, e2, e3, _⟩ := hI.out.win 0 h0
   rw [e] at e2
   injection e2 with e2
   injection e2 with e2
   have := hka.out; have := hab.out; have := hkm.out; omega) hl)
 go_wp2_with fail
 refine hsp.out.mono ?_
 rintro r V7 ⟨rfl, hk7⟩
 replace hLn := Hz.mk (hLn.out.keep hk7 (fun k h1 h2 (q : k = kb) => by have := hlo1.out; omega))
 replace hQ := Hz.mk (at_keep hQ.out hk7 (by have := hka.out; have := hab.out; omega))
 replace hp := Hz.mk (at_keep hp.out hk7 (by have := hkpn.out; omega))
 replace hBw := Hz.mk (hBw.out.trans (hk7.below (B := w.heap.size) (by have := hBw.out.size; omega) (fun k (q : k = kb) => by have := hkm.out; have := hka.out; have := hab.out; omega)))
 replace hkA : Hz (Kp (fun k => w.heap.size ≤ k ∧ k < V.heap.size) V5 V7) := Hz.mk (hkA.out.trans (Kp.mono hk7 (fun k (q : k = kb) => .inl (by have := hkm.out; have := hka.out; have := hab.out; have := hkpn.out; have := hhi.out; omega : w.heap.size ≤ k ∧ k < V.heap.size))) (fun _ q => .inl q))
 replace hsz := Hz.mk (Nat.le_trans hsz.out hk7.size)
 clear hsp hWI hk7 hFb
 have d0 : V7.cell? ⟨kp, 0, none⟩ = some (.slice (some ⟨kc, 0, none⟩) R.code.length (R.code.length + 8)) := hp.out.2.1 0
 have d1 : V7.cell? ⟨kp, 1, none⟩ = some (.slice (some ⟨kg, 0, none⟩) R.gates.length (R.gates.length + 8)) := hp.out.2.1 1
 have d2 : V7.cell? ⟨kp, 2, none⟩ = some (.string (T.str mem)) := hp.out.2.1 2
 have d3 : V7.cell? ⟨kp, 3, none⟩ = some (.int .i64 R.dep) := hp.out.2.1 3
 have e0 : V7.cell? ⟨km, 0, none⟩ = some (.slice ca R.code.length cc) := hQ.out.2.1 0
 have e1 : V7.cell? ⟨km, 1, none⟩ = some (.slice ga R.gates.length gc) := hQ.out.2.1 1
 have e2 : V7.cell? ⟨km, 2, none⟩ = some (.string (T.str mem)) := hQ.out.2.1 2
 have e3 : V7.cell? ⟨km, 3, none⟩ = some (.int .i64 R.dep) := hQ.out.2.1 3
 have hLw := Hz.mk (hLn.out.low (lo' := w.heap.size) (by have := hkm.out; have := hka.out; have := hab.out; have := hlo1.out; omega))
 have hbk := Hz.mk (back_any R ca ga cc gc (T.str mem) w.heap.size kp V7 kc kg K la lc hLw.out (Nat.le_trans hhi.out hsz.out) ⟨w, rfl, hBw.out, hP.out⟩ hc hr.out hg)
 go_wp2_with fail
 refine hbk.out.mono ?_
 rintro r V8 ⟨rfl, hk8⟩
 have hk8b := Hz.mk (Kp.mono (S1 := fun k => w.heap.size ≤ k ∧ k < V.heap.size) hk8 (fun k q => .inl (by have := hLw.out.inS q; have := hhi.out; omega)))
 replace hkA : Hz (Kp (fun k => w.heap.size ≤ k ∧ k < V.heap.size) V5 V8) := Hz.mk (hkA.out.trans hk8b.out (fun _ q => .inl q))
 replace hBw := Hz.mk (hBw.out.trans (hk8b.out.below (B := w.heap.size) (by have := hBw.out.size; omega) (fun k q => q.1)))
 clear d0 d1 d2 d3 e0 e1 e2 e3 hbk hk8 hk8b
 go_wp2_with fail
 go_ret3
 exact ⟨rfl, hBw.out⟩
theorem made_ok (R : Rp) (ca ga : Option Addr) (cc gc : Nat) (mem : List UInt8) (gate : Nat) (A : List Int) (sa : Option Addr) (sc : Nat) (ia : Option Addr) (ic : Nat) (L : List Int) (w : World) (hP : RpIn w ca ga R) (is : R.Is) (hA : WIn w sa A) (hAl : A.length ≤ 2000000) (hI : InL w ia ic L) (hc : R.code.length ≤ 1500000) (hr : ∀ r ∈ R.code, r.length ≤ 2000000) (hg : R.gates.length ≤ 2000000) (hl : L.length ≤ 2000000) (hcap : ∀ a, ia = some a → L.length ≤ ic) (ok : R.Ok mem.length) (hgl : gate < R.gates.length) (hna : (A.length : Int) = R.gates[gate].a) :
   Calls Tryz.prog 7 #[.agg #[.slice ca R.code.length cc, .slice ga R.gates.length gc, .string (T.str mem), .int .i64 R.dep], .int .i64 gate, .slice sa A.length sc, .slice ia L.length ic] w fun x w' => ∃ a b, x = .returned (.tuple #[.bool true, .pointer (some ⟨a, 0, none⟩), .pointer (some ⟨b, 0, none⟩)]) ∧ MD w.heap.size w' R.pr a (start R.gates[gate].fg gate A.length (srcA A) L mem) b ⟨ca, ga, cc, gc, .string (T.str mem)⟩ (start R.gates[gate].fg gate A.length (srcA A) L mem) [] ∧ DPg w.heap.size w' ⟨ca, ga, cc, gc, .string (T.str mem)⟩ R.pr ∧ Below w.heap.size w w' := by
 replace hcap := Hz.mk hcap
 obtain ⟨s0, hs0⟩ : ∃ s, start R.gates[gate].fg gate A.length (srcA A) L mem = s := ⟨_, rfl⟩
 have hok := Hz.mk ok
 have hna' := Hz.mk hna
 replace hA := Hz.mk hA
 replace hI := Hz.mk hI
 replace hr := Hz.mk hr
 replace hP := Hz.mk hP
 replace is := Hz.mk is
 go_enter Tryz.func7, Tryz.ntmps7
 go_upto_region 1 with fail
 refine wp_world (fun W => At W w.heap.size #[.slice ca R.code.length cc, .slice ga R.gates.length gc, .string (T.str mem), .int .i64 R.dep] ∧ Gr w W) ⟨At.new w _ _, (Gr.refl _).alloc _⟩ ?_
 rintro W ⟨hQ, G⟩
 have hB := Hz.mk G.below
 obtain ⟨km, hkm⟩ : ∃ km, w.heap.size = km := ⟨_, rfl⟩
 rw [hkm] at hQ ⊢
 have hkl := Hz.mk hQ.1
 have hw1 := Hz.mk (words_any A sa sc W (hA.out.below hB.out) hAl)
 replace hQ := Hz.mk hQ
 replace hkm := Hz.mk hkm
 clear G
 go_wp2_with fail
 refine hw1.out.mono ?_
 rintro r W1 ⟨ka, rfl, hka, hFa, hB1⟩
 replace hQ := Hz.mk (at_below hQ.out hB1 hkl.out)
 replace hB := Hz.mk (hB.out.trans (hB1.mono hB.out.size))
 replace hka : Hz (km < ka) := Hz.mk (Nat.lt_of_lt_of_le hkl.out hka)
 replace hkl := Hz.mk (Nat.lt_of_lt_of_le hkl.out hB1.size)
 replace hFa := Hz.mk hFa
 clear hw1 hB1
 have hw2 := Hz.mk (words_any L ia ic W1 (hI.out.win.below hB.out) hl)
 go_wp2_with fail
 refine hw2.out.mono ?_
 rintro r W2 ⟨kb, rfl, hkb, hFb, hB1⟩
 replace hQ := Hz.mk (at_below hQ.out hB1 hkl.out)
 have hab : Hz (ka < kb) := Hz.mk (Nat.lt_of_lt_of_le hFa.out.lt hkb)
 replace hFa := Hz.mk (hFa.out.bel hB1 hFa.out.lt)
 replace hB := Hz.mk (hB.out.trans (hB1.mono hB.out.size))
 replace hkl := Hz.mk (Nat.lt_of_lt_of_le hkl.out hB1.size)
 replace hFb := Hz.mk hFb
 clear hw2 hB1 hkb
 have e0 : W2.cell? ⟨km, 0, none⟩ = some (.slice ca R.code.length cc) := hQ.out.2.1 0
 have e1 : W2.cell? ⟨km, 1, none⟩ = some (.slice ga R.gates.length gc) := hQ.out.2.1 1
 have e2 : W2.cell? ⟨km, 2, none⟩ = some (.string (T.str mem)) := hQ.out.2.1 2
 have e3 : W2.cell? ⟨km, 3, none⟩ = some (.int .i64 R.dep) := hQ.out.2.1 3
 have hln := Hz.mk (lent2_any R ca ga cc gc (T.str mem) W2 (hP.out.below_ hB.out) hc hr.out hg)
 go_wp2_with fail
 refine hln.out.mono ?_
 rintro r W3 ⟨kc, kg, la, lc, K, rfl, hLn, hB1⟩
 have hlo1 : Hz (kb < W2.heap.size) := Hz.mk hFb.out.lt
 have hlo2 : Hz (W2.heap.size ≤ W3.heap.size) := Hz.mk hB1.size
 replace hQ := Hz.mk (at_below hQ.out hB1 hkl.out)
 replace hFb := Hz.mk (hFb.out.bel hB1 hFb.out.lt)
 replace hFa := Hz.mk (hFa.out.bel hB1 (by have := hab.out; have := hlo1.out; omega))
 replace hB := Hz.mk (hB.out.trans (hB1.mono hB.out.size))
 replace hkl := Hz.mk (Nat.lt_of_lt_of_le hkl.out hB1.size)
 replace hLn := Hz.mk hLn
 clear e0 e1 e2 e3 hln hB1
 generalize W2.heap.size = lo at *
 go_upto_region 4 with fail
 refine wp_world (fun V => At V W3.heap.size #[.slice (some ⟨kc, 0, none⟩) R.code.length (R.code.length + 8), .slice (some ⟨kg, 0, none⟩) R.gates.length (R.gates.length + 8), .string (T.str mem), .int .i64 R.dep] ∧ Gr W3 V) ?_ ?_
 · first | exact ⟨At.new W3 _ _, (Gr.refl _).alloc _⟩ | exact ⟨At.setAll (At.new W3 _ _) _ rfl, Gr.setCells ((Gr.refl W3).alloc _) _ (Nat.le_refl _) _ 0⟩
 rintro V ⟨hp, G2⟩
 have hhi : Hz (W3.heap.size ≤ V.heap.size) := Hz.mk G2.below.size
 have hkpl := Hz.mk hp.1
 replace hQ := Hz.mk (hQ.out.gr G2)
 replace hFa := Hz.mk (hFa.out.gr G2)
 replace hFb := Hz.mk (hFb.out.gr G2)
 replace hLn := Hz.mk (hLn.out.bel (B := W3.heap.size) (G2.below) (Nat.le_refl _))
 replace hB := Hz.mk (hB.out.trans (G2.below.mono hB.out.size))
 replace hkl := Hz.mk (Nat.lt_of_lt_of_le hkl.out G2.below.size)
 replace hp := Hz.mk hp
 have hkpn : Hz (km < W3.heap.size ∧ ka < W3.heap.size ∧ kb < W3.heap.size ∧ lo ≤ W3.heap.size) := Hz.mk (by have := hka.out; have := hab.out; have := hlo1.out; have := hlo2.out; omega)
 clear G2 hlo2
 generalize W3.heap.size = kp at *
 have d0 : V.cell? ⟨kp, 0, none⟩ = some (.slice (some ⟨kc, 0, none⟩) R.code.length (R.code.length + 8)) := hp.out.2.1 0
 have d1 : V.cell? ⟨kp, 1, none⟩ = some (.slice (some ⟨kg, 0, none⟩) R.gates.length (R.gates.length + 8)) := hp.out.2.1 1
 have d2 : V.cell? ⟨kp, 2, none⟩ = some (.string (T.str mem)) := hp.out.2.1 2
 have d3 : V.cell? ⟨kp, 3, none⟩ = some (.int .i64 R.dep) := hp.out.2.1 3
 have hnx := Hz.mk (new_raw R (some ⟨kc, 0, none⟩) (some ⟨kg, 0, none⟩) (R.code.length + 8) (R.gates.length + 8) mem gate (some ⟨ka, 0, none⟩) A.length (A.length + 8) (srcA A) (some ⟨kb, 0, none⟩) (L.length + 8) L V hLn.out.rp is.out hok.out hgl hna'.out (src_row hFa.out) hl (inl_row hFb.out))
 rw [hs0] at hnx
 go_wp2_with fail
 refine hnx.out.mono ?_
 rintro r V4 ⟨a, rfl, hM, hb4⟩
 clear d0 d1 d2 d3 hnx
 have hQV := hQ
 replace hQ := Hz.mk (at_below hQ.out hb4 hkl.out)
 obtain ⟨q4, hs4⟩ := sep_both (snap_sep w.heap.size V) hB.out.size hM hb4
 have hB4 := Hz.mk (hB.out.trans (hb4.mono hB.out.size))
 have hpg : Hz (DPg w.heap.size V4 ⟨ca, ga, cc, gc, .string (T.str mem)⟩ R.pr) := Hz.mk ⟨w, rfl, hB4.out, hok.out.rw is.out hP.out⟩
 replace hs4 := Hz.mk hs4
 replace hM := Hz.mk hM
 replace hb4 := Hz.mk hb4
 have e0 : V4.cell? ⟨km, 0, none⟩ = some (.slice ca R.code.length cc) := hQ.out.2.1 0
 have e1 : V4.cell? ⟨km, 1, none⟩ = some (.slice ga R.gates.length gc) := hQ.out.2.1 1
 have e2 : V4.cell? ⟨km, 2, none⟩ = some (.string (T.str mem)) := hQ.out.2.1 2
 have e3 : V4.cell? ⟨km, 3, none⟩ = some (.int .i64 R.dep) := hQ.out.2.1 3
 have hny := Hz.mk (dnew_ok R ca ga cc gc mem gate sa A.length sc (srcA A) ia ic L V4 (hP.out.below_ hB4.out) is.out hok.out hr.out hgl hna'.out w.heap.size hB4.out.size hpg.out ((LfIn.of hI.out hcap.out w.heap.size (Nat.le_refl _)).below hB4.out) _ hs4.out (by
   by_cases hA0 : A.length = 0
   · exact .inl hA0
   · obtain ⟨b, off, e1, _, _⟩ := hA.out 0 (by omega)
     refine .inr ⟨b, off, e1, fun X hX _ j hj => ?_⟩
     obtain ⟨b2, off2, e3, e4, e5⟩ := hA.out j hj
     rw [e1] at e3
     injection e3 with e3
     injection e3 with e3 e6
     subst e3 e6
     rw [T.cell_of_block ((hB4.out.trans hX).block b e4), e5]
     unfold srcA
     simp [hj]) s0 hs0)
 go_wp2_with fail
 refine hny.out.mono ?_
 rintro r V5 ⟨b, rfl, hD5, hb5⟩
 have hsn := hD5.there (snapOb w.heap.size V) (by simp)
 have hS := Hz.mk (snap_below hsn ((hb4.out.mono hB.out.size).trans hb5))
 have hMD : Hz (MD w.heap.size V5 R.pr a s0 b ⟨ca, ga, cc, gc, .string (T.str mem)⟩ s0 [snapOb w.heap.size V]) := Hz.mk ⟨q4, hD5⟩
 replace hQ := hQV
 clear e0 e1 e2 e3 hny hb5 hD5 hsn hQV hs4 hM
 replace hFa := Hz.mk (hFa.out.bel hS.out hFa.out.lt)
 replace hFb := Hz.mk (hFb.out.bel hS.out hFb.out.lt)
 replace hLn := Hz.mk (hLn.out.bel hS.out hhi.out)
 replace hQ := Hz.mk (at_below hQ.out hS.out hkl.out)
 replace hp := Hz.mk (at_below hp.out hS.out hkpl.out)
 have hBw := Hz.mk (hB.out.trans (hS.out.mono hB.out.size))
 have hsz : Hz (V.heap.size ≤ V5.heap.size) := Hz.mk hS.out.size
 have hWA := Hz.mk (hA.out.below hBw.out)
 have hsp := Hz.mk (spoilt2 A ka sa sc V5 hFa.out hWA.out (fun b off e h0 => by
   obtain ⟨b2, off2, e2, e3, _⟩ := hA.out 0 h0
   rw [e] at e2
   injection e2 with e2
   injection e2 with e2
   have := hka.out; have := hkm.out; omega) hAl)
 go_wp2_with fail
 refine hsp.out.mono ?_
 rintro r V6 ⟨rfl, hk6⟩
 replace hFb := Hz.mk (hFb.out.keep hk6 (by have := hab.out; omega))
 replace hLn := Hz.mk (hLn.out.keep hk6 (fun k h1 h2 (q : k = ka) => by have := hab.out; have := hlo1.out; omega))
 replace hQ := Hz.mk (at_keep hQ.out hk6 (by have := hka.out; omega))
 replace hp := Hz.mk (at_keep hp.out hk6 (by have := hkpn.out; omega))
 replace hBw := Hz.mk (hBw.out.trans (hk6.below (B := w.heap.size) (by have := hBw.out.size; omega) (fun k (q : k = ka) => by have := hkm.out; have := hka.out; omega)))
 have hkA : Hz (Kp (fun k => w.heap.size ≤ k ∧ k < V.heap.size) V5 V6) := Hz.mk (Kp.mono hk6 (fun k (q : k = ka) => .inl (by have := hkm.out; have := hka.out; have := hkpn.out; have := hhi.out; omega)))
 replace hsz := Hz.mk (Nat.le_trans hsz.out hk6.size)
 clear hsp hWA hk6 hFa
 have hWI := Hz.mk (hI.out.win.below hBw.out)
 have hsp := Hz.mk (spoilt2 L kb ia ic V6 hFb.out hWI.out (fun b off e h0 => by
   obtain ⟨b2, off2, e2, e3, _⟩ := hI.out.win 0 h0
   rw [e] at e2
   injection e2 with e2
   injection e2 with e2
   have := hka.out; have := hab.out; have := hkm.out; omega) hl)
 go_wp2_with fail
 refine hsp.out.mono ?_
 rintro r V7 ⟨rfl, hk7⟩
 replace hLn := Hz.mk (hLn.out.keep hk7 (fun k h1 h2 (q : k = kb) => by have := hlo1.out; omega))
 replace hQ := Hz.mk (at_keep hQ.out hk7 (by have := hka.out; have := hab.out; omega))
 replace hp := Hz.mk (at_keep hp.out hk7 (by have := hkpn.out; omega))
 replace hBw := Hz.mk (hBw.out.trans (hk7.below (B := w.heap.size) (by have := hBw.out.size; omega) (fun k (q : k = kb) => by have := hkm.out; have := hka.out; have := hab.out; omega)))
 replace hkA : Hz (Kp (fun k => w.heap.size ≤ k ∧ k < V.heap.size) V5 V7) := Hz.mk (hkA.out.trans (Kp.mono hk7 (fun k (q : k = kb) => .inl (by have := hkm.out; have := hka.out; have := hab.out; have := hkpn.out; have := hhi.out; omega : w.heap.size ≤ k ∧ k < V.heap.size))) (fun _ q => .inl q))
 replace hsz := Hz.mk (Nat.le_trans hsz.out hk7.size)
 clear hsp hWI hk7 hFb
 have d0 : V7.cell? ⟨kp, 0, none⟩ = some (.slice (some ⟨kc, 0, none⟩) R.code.length (R.code.length + 8)) := hp.out.2.1 0
 have d1 : V7.cell? ⟨kp, 1, none⟩ = some (.slice (some ⟨kg, 0, none⟩) R.gates.length (R.gates.length + 8)) := hp.out.2.1 1
 have d2 : V7.cell? ⟨kp, 2, none⟩ = some (.string (T.str mem)) := hp.out.2.1 2
 have d3 : V7.cell? ⟨kp, 3, none⟩ = some (.int .i64 R.dep) := hp.out.2.1 3
 have e0 : V7.cell? ⟨km, 0, none⟩ = some (.slice ca R.code.length cc) := hQ.out.2.1 0
 have e1 : V7.cell? ⟨km, 1, none⟩ = some (.slice ga R.gates.length gc) := hQ.out.2.1 1
 have e2 : V7.cell? ⟨km, 2, none⟩ = some (.string (T.str mem)) := hQ.out.2.1 2
 have e3 : V7.cell? ⟨km, 3, none⟩ = some (.int .i64 R.dep) := hQ.out.2.1 3
 have hLw := Hz.mk (hLn.out.low (lo' := w.heap.size) (by have := hkm.out; have := hka.out; have := hab.out; have := hlo1.out; omega))
 have hbk := Hz.mk (back_any R ca ga cc gc (T.str mem) w.heap.size kp V7 kc kg K la lc hLw.out (Nat.le_trans hhi.out hsz.out) ⟨w, rfl, hBw.out, hP.out⟩ hc hr.out hg)
 go_wp2_with fail
 refine hbk.out.mono ?_
 rintro r V8 ⟨rfl, hk8⟩
 have hk8b := Hz.mk (Kp.mono (S1 := fun k => w.heap.size ≤ k ∧ k < V.heap.size) hk8 (fun k q => .inl (by have := hLw.out.inS q; have := hhi.out; omega)))
 replace hkA : Hz (Kp (fun k => w.heap.size ≤ k ∧ k < V.heap.size) V5 V8) := Hz.mk (hkA.out.trans hk8b.out (fun _ q => .inl q))
 replace hBw := Hz.mk (hBw.out.trans (hk8b.out.below (B := w.heap.size) (by have := hBw.out.size; omega) (fun k q => q.1)))
 clear d0 d1 d2 d3 e0 e1 e2 e3 hbk hk8 hk8b
 go_wp2_with fail
 go_ret3
 obtain ⟨hMD8, _⟩ := hMD.out.over hkA.out (fun k q => q.1)
 refine ⟨a, b, rfl, ?_, ⟨w, rfl, hBw.out, hok.out.rw is.out hP.out⟩, hBw.out⟩
 rw [hs0]
 exact hMD8
end Z
end Go.Proofs.YtmedafcmfbhjkaaGreat


namespace Go.Proofs.YtmedafcmfbhjkaaGreat
set_option maxRecDepth 100000
set_option maxHeartbeats 40000000
namespace Z
open Go.RowKit
open T (Sep Ob Kp Mf FlIn boxOb)

theorem DIo.snap {B : Nat} {W : World} {b : Nat} {c : Dc} {P : Pr} {s : Fm} {og op : Nat} {l : List Ob} (h : DIo B W b c P s og op l) : ∃ sa sc, ∀ V, Gr W V → V.cell? ⟨b, 4, none⟩ = some (.int .i64 s.g) ∧ V.cell? ⟨b, 5, none⟩ = some (.int .i64 s.p) ∧ V.cell? ⟨b, 22, none⟩ = some (.slice sa s.st.length sc) ∧ V.rangeAt b 6 (regs s.r) := by
 obtain ⟨⟨q, h1, _⟩, le⟩ := h
 have hb := h1.ins (dbOb b (dxOf c P s q og op)) (by simp [dobs])
 have hO := h1.ins (rowOb B 100 18 q.sv s.st.length (s.st.flatMap Fr.vals)) (by simp [dobs])
 obtain ⟨sa, sc, e⟩ : ∃ sa sc, q.sv = .slice sa s.st.length sc := by
   rcases hO.2 with ⟨e1, e2⟩ | ⟨g, cap, cur, e1, _⟩
   · exact ⟨none, 0, by rw [e1, e2]⟩
   · exact ⟨_, _, e1⟩
 refine ⟨sa, sc, fun V g => ?_⟩
 have hk := fun j => T.cell_of_block (g.below.block b hb.1) j
 refine ⟨(hk _).trans (hb.at_ 4 (by omega)), (hk _).trans (hb.at_ 5 (by omega)), ?_, fun j v qv => ?_⟩
 · rw [← e]
   exact (hk _).trans (hb.at_ 22 (by omega))
 · have hj : j < 16 := by have := (List.getElem?_eq_some_iff.1 qv).1; rwa [regs_len] at this
   rw [regs_at s.r j hj] at qv
   refine (hk _).trans ((hb.at_ (6 + j) (by omega)).trans ?_)
   rw [Dx.reg _ j hj]
   exact qv
theorem dsnap_any (B : Nat) (W : World) (b : Nat) (c : Dc) (P : Pr) (s : Fm) (og op : Nat) (l : List Ob) (h : DIo B W b c P s og op l) :
   Calls Tryz.prog 11 #[.pointer (some ⟨b, 0, none⟩)] W fun x w' => x = .returned (.agg (snV s.g s.p s.st.length s.r).toArray) ∧ Gr W w' := by
 obtain ⟨sa, sc, KS⟩ := h.snap
 replace KS := Hz.mk KS
 clear h
 go_enter Tryz.func11, Tryz.ntmps11
 go_upto_region 1 with fail
 refine wp_world (fun V => At V W.heap.size (List.toArray [Value.int .i64 0, .int .i64 0, .int .i64 0, .int .u64 0, .int .u64 0, .int .u64 0, .int .u64 0, .int .u64 0, .int .u64 0, .int .u64 0, .int .u64 0, .int .u64 0, .int .u64 0, .int .u64 0, .int .u64 0, .int .u64 0, .int .u64 0, .int .u64 0, .int .u64 0]) ∧ Gr W V) ⟨At.new W _ _, (Gr.refl _).alloc _⟩ ?_
 rintro V ⟨hA, G⟩
 have hkW : W.heap.size ≤ W.heap.size := Nat.le_refl _
 generalize hk : W.heap.size = kr at hA hkW ⊢
 have hAd : At V.drew kr (List.toArray [Value.int .i64 0, .int .i64 0, .int .i64 0, .int .u64 0, .int .u64 0, .int .u64 0, .int .u64 0, .int .u64 0, .int .u64 0, .int .u64 0, .int .u64 0, .int .u64 0, .int .u64 0, .int .u64 0, .int .u64 0, .int .u64 0, .int .u64 0, .int .u64 0, .int .u64 0]) := hA.gr (Gr.refl V).drew
 have Gd := G.drew
 have hth := Hz.mk (At.there (cs := [Value.int .i64 0, .int .i64 0, .int .i64 0, .int .u64 0, .int .u64 0, .int .u64 0, .int .u64 0, .int .u64 0, .int .u64 0, .int .u64 0, .int .u64 0, .int .u64 0, .int .u64 0, .int .u64 0, .int .u64 0, .int .u64 0, .int .u64 0, .int .u64 0, .int .u64 0]) hAd 0 19 (by decide))
 have hA2 := Hz.mk (At.setAll (cs := [Value.int .i64 0, .int .i64 0, .int .i64 0, .int .u64 0, .int .u64 0, .int .u64 0, .int .u64 0, .int .u64 0, .int .u64 0, .int .u64 0, .int .u64 0, .int .u64 0, .int .u64 0, .int .u64 0, .int .u64 0, .int .u64 0, .int .u64 0, .int .u64 0, .int .u64 0]) hAd (snV s.g s.p s.st.length s.r) (by rw [snV_len]; rfl))
 have G2 := Hz.mk (Gr.setCells Gd kr (by omega) (snV s.g s.p s.st.length s.r) 0)
 rw [← snV_len s.g s.p s.st.length s.r] at hth
 clear hA hAd G
 refine wp_region_held_drew (S := (fun W => W.cell? ⟨b, 4, none⟩ = some (.int .i64 s.g) ∧ W.cell? ⟨b, 5, none⟩ = some (.int .i64 s.p) ∧ W.cell? ⟨b, 22, none⟩ = some (.slice sa s.st.length sc) ∧ W.rangeAt b 6 (regs s.r))) (by kernel_rfl) (KS.out _ Gd) (fun hHeld => ?_)
 refine xso 0 ?_ rfl ?_ (xso 1 ?_ rfl ?_ (xso 2 ?_ rfl ?_ (xso 3 ?_ rfl ?_ (xso 4 ?_ rfl ?_ (xso 5 ?_ rfl ?_ (xso 6 ?_ rfl ?_ (xso 7 ?_ rfl ?_ (xso 8 ?_ rfl ?_ (xso 9 ?_ rfl ?_ (xso 10 ?_ rfl ?_ (xso 11 ?_ rfl ?_ (xso 12 ?_ rfl ?_ (xso 13 ?_ rfl ?_ (xso 14 ?_ rfl ?_ (xso 15 ?_ rfl ?_ ?_)))))))))))))))
 iterate 16 (rotate_left; focus ((try simp only [xap]); intro w hSw; (try dsimp only at hSw); go_simp; first | done | with_reducible rfl))
 try simp only [xap]
 refine xtk 16 rfl (yieldsIf_load_mid (by rfl) _ _ rfl _ _ rfl _ _ (fun _ h => h.2.2.2) Tryz.underlying40 rfl (by rw [regs_len]; kernel_rfl)) ?_
 try simp only [xap]
 refine xtk 17 rfl (yields_sn (by rfl) _ _ _ _ rfl _ _ _ s.r (by rfl) (by rfl) (by rfl) (by rfl)) ?_
 try simp only [xap]
 refine xrd 18 rfl (fun K hK => ?_)
 rw [if_pos (by rfl)]
 refine wp_store_mid _ _ _ rfl _ _ (List.toArray (snV s.g s.p s.st.length s.r)) rfl rfl (hth.out) (by rw [List.size_toArray, snV_len]; kernel_rfl) (snV_one _ _ _ _) ?_
 refine hK.out _ _ (KS.out _ G2.out) (fun hHeld => ?_)
 clear hK K
 try simp only [Act.put]
 refine xdn ?_ _
 clear hHeld
 generalize World.setCells _ _ _ _ = Z at *
 have hrun := Hz.mk (run_loadVar_mid (P := Tryz.prog) Z kr 0 42 (snV s.g s.p s.st.length s.r) _ (fun j v q => by rw [Nat.zero_add]; exact (hA2.out.2.1 j).trans (by simpa using q)) Tryz.underlying42 rfl (by rw [snV_len]; kernel_rfl))
 go_wp2_with fail
 refine bodyPost_ret (v := .agg (snV s.g s.p s.st.length s.r).toArray) ?_ rfl ⟨rfl, G2.out⟩
 exact results_rowZ Tryz.results11 _ _ rfl hrun.out
theorem dstring_of (w : World) (g k : Nat) (m : Nat → UInt8) (h : ∀ i, i < 65536 → w.cell? ⟨g, i, none⟩ = some (.int .u8 (m i).toNat)) : (convert 73 9 (.slice (some ⟨g, 0, none⟩) 65536 k)).run Tryz.prog w = .ok (.string ⟨(T.rowB m 0 65536).toArray⟩) w := by
 have := run_convert_bytes_back (P := Tryz.prog) w 73 9 5 ⟨g, 0, none⟩ k (T.rowB m 0 65536) Tryz.underlying73 Tryz.underlying5 Tryz.underlying9 (fun j hj => by
   rw [T.rowB_len] at hj
   rw [T.addr_add, h j hj]
   simp [T.rowB])
 rw [T.rowB_len] at this
 exact this
theorem dmemoryS_any (B : Nat) (W : World) (b : Nat) (c : Dc) (P : Pr) (s : Fm) (og op : Nat) (l : List Ob) (h : DIo B W b c P s og op l) :
   Calls Tryz.prog 36 #[.pointer (some ⟨b, 0, none⟩)] W fun x w' => x = .returned (.string ⟨(T.rowB s.m 0 65536).toArray⟩) ∧ Below W.heap.size W w' := by
 obtain ⟨g, k, c23, _, hc, _⟩ := h.mem
 have hs := dstring_of W g k s.m (fun i hi => (hc i hi).1)
 replace hc := Hz.mk hc
 replace h := Hz.mk h
 generalize (T.rowB s.m 0 65536).toArray = RR at *
 go_enter Tryz.func36, Tryz.ntmps36
 go_wp2_with fail
 go_ret
 exact ⟨rfl, Below.refl _ _⟩
end Z
end Go.Proofs.YtmedafcmfbhjkaaGreat


namespace Go.Proofs.YtmedafcmfbhjkaaGreat
set_option maxRecDepth 100000
set_option maxHeartbeats 40000000
namespace Z
open Go.RowKit
open T (Sep Ob Kp Mf FlIn boxOb)

theorem DIo.outs {B : Nat} {W : World} {b : Nat} {c : Dc} {P : Pr} {s : Fm} {og op : Nat} {l : List Ob} (h : DIo B W b c P s og op l) : b < W.heap.size ∧ (∃ ta tk, W.cell? ⟨b, 25, none⟩ = some (.slice ta s.out.length tk) ∧ WIn W ta s.out) ∧ ∃ ua uk, W.cell? ⟨b, 26, none⟩ = some (.slice ua s.tc.length uk) ∧ T.EIn 3 Tc.vals W ua s.tc := by
 obtain ⟨⟨q, h1, _⟩, _⟩ := h
 have hb := h1.ins (dbOb b (dxOf c P s q og op)) (by simp [dobs])
 have hO : W.ownsRow B 35 1 q.ov_ s.out.length (s.out.map u64I) := h1.ins (ouOb B q.ov_ s.out) (by simp [dobs])
 have hT : W.ownsRow B 61 3 q.tv s.tc.length (s.tc.flatMap Tc.vals) := h1.ins (tcOb B q.tv s.tc) (by simp [dobs])
 obtain ⟨ta, tk, e1, e2⟩ := own_win hO rfl
 obtain ⟨ua, uk, f1, f2⟩ := own_tin hT rfl
 exact ⟨hb.lt, ⟨ta, tk, by rw [← e1]; exact hb.at_ 25 (by omega), e2⟩, ua, uk, by rw [← f1]; exact hb.at_ 26 (by omega), f2⟩
theorem level_any (B : Nat) (W : World) (P : Pr) (a b : Nat) (c : Dc) (s : Fm) (h : MD B W P a s b c s []) (hol : s.out.length ≤ 1000000) (htl : s.tc.length ≤ 1000000) :
   Calls Tryz.prog 12 #[.pointer (some ⟨a, 0, none⟩), .pointer (some ⟨b, 0, none⟩)] W fun x w' => x = .returned (.bool true) ∧ Below W.heap.size W w' := by
 have hM := Hz.mk (h.gr ((Gr.refl W).drew.below))
 replace hol := Hz.mk hol
 replace htl := Hz.mk htl
 have hBW := Hz.mk h.le
 clear h
 obtain ⟨lx, hX⟩ := hM.out.oneX
 obtain ⟨ly, hY⟩ := hM.out.oneY
 obtain ⟨hlt, ⟨ta, tk, x25, hwy⟩, ua, uk, x26, hty⟩ := hY.outs
 replace hlt := Hz.mk hlt
 replace hwy := Hz.mk hwy
 replace hty := Hz.mk hty
 replace x26 := Hz.mk x26
 replace hX := Hz.mk hX
 clear hY
 go_enter Tryz.func12, Tryz.ntmps12
 go_upto_region 1 with fail
 refine wp_region_held_drew (S := (fun X => X.cell? ⟨b, 25, none⟩ = some (.slice ta s.out.length tk))) (by kernel_rfl) (x25) (fun hHeld => ?_)
 refine xso 0 ?_ rfl ?_ (xso 2 ?_ rfl ?_ (xso 3 ?_ rfl ?_ (xso 4 ?_ rfl ?_ (xso 5 ?_ rfl ?_ ?_))))
 iterate 5 (rotate_left; focus ((try simp only [xap]); intro w hSw; (try dsimp only at hSw); go_simp; first | done | with_reducible rfl))
 try simp only [xap]
 refine xrd 1 rfl (fun K hK => ?_)
 go_simp
 go_wp2_with (refine (outs_any B W.drew a P s lx hX.out hol.out).mono ?_; rintro r V1 ⟨va, vc, rfl, hW1, hb1⟩; clear hHeld)
 refine hK.out _ _ ((T.cell_of_block (hb1.block b hlt.out) _).trans x25) (fun hHeld => ?_)
 clear hK K
 try simp only [xap]
 refine xrd 6 rfl (fun K hK => ?_)
 go_simp
 go_wp2_with (refine (sameW_self s.out va ta vc tk V1 hW1 (hwy.out.below hb1) hol.out).mono ?_; rintro r V2 ⟨rfl, g2⟩; clear hHeld)
 refine hK.out _ _ ((T.cell_of_block ((hb1.trans (g2.below.mono hb1.size)).block b hlt.out) _).trans x25) (fun hHeld => ?_)
 clear hK K
 try simp only [xap]
 refine xso 7 ?_ rfl ?_ ?_
 rotate_left
 · intro w hSw; (try dsimp only at hSw); go_simp; first | done | with_reducible rfl
 try simp only [xap]
 refine xdn ?_ _
 clear hHeld x25 hX hwy hW1
 have hbb : Below W.drew.heap.size W.drew V2 := hb1.trans (g2.below.mono hb1.size)
 have hbb2 := hbb.trans ((Gr.refl V2).drew.below.mono hbb.size)
 replace hM := Hz.mk (hM.out.gr hbb2)
 have hbW : Hz (Below W.heap.size W V2) := Hz.mk (Gr.below ((Gr.refl W).drew) |>.trans hbb)
 replace hty := Hz.mk (hty.out.below hbb2)
 replace x26 := Hz.mk ((T.cell_of_block (hbb2.block b hlt.out) _).trans x26.out)
 replace hlt := Hz.mk (Nat.lt_of_lt_of_le hlt.out hbb2.size)
 clear hb1 g2 hbb hbb2
 obtain ⟨lx, hX⟩ := hM.out.oneX
 replace hX := Hz.mk hX
 replace x26 := x26.out
 go_upto_region 2 with fail
 refine wp_region_held_drew (S := (fun X => X.cell? ⟨b, 26, none⟩ = some (.slice ua s.tc.length uk))) (by kernel_rfl) (x26) (fun hHeld => ?_)
 refine xso 0 ?_ rfl ?_ (xso 2 ?_ rfl ?_ (xso 3 ?_ rfl ?_ (xso 4 ?_ rfl ?_ (xso 5 ?_ rfl ?_ ?_))))
 iterate 5 (rotate_left; focus ((try simp only [xap]); intro w hSw; (try dsimp only at hSw); go_simp; first | done | with_reducible rfl))
 try simp only [xap]
 refine xrd 1 rfl (fun K hK => ?_)
 go_simp
 go_wp2_with (refine (tcs_any B V2.drew a P s lx hX.out htl.out).mono ?_; rintro r V3 ⟨va, vc, rfl, hW1, hb1⟩; clear hHeld)
 refine hK.out _ _ ((T.cell_of_block (hb1.block b hlt.out) _).trans x26) (fun hHeld => ?_)
 clear hK K
 try simp only [xap]
 refine xrd 6 rfl (fun K hK => ?_)
 go_simp
 go_wp2_with (refine (sameT_self s.tc va ua vc uk V3 hW1 (hty.out.below hb1) htl.out).mono ?_; rintro r V4 ⟨rfl, g2⟩; clear hHeld)
 refine hK.out _ _ ((T.cell_of_block ((hb1.trans (g2.below.mono hb1.size)).block b hlt.out) _).trans x26) (fun hHeld => ?_)
 clear hK K
 try simp only [xap]
 refine xso 7 ?_ rfl ?_ ?_
 rotate_left
 · intro w hSw; (try dsimp only at hSw); go_simp; first | done | with_reducible rfl
 try simp only [xap]
 refine xdn ?_ _
 clear hHeld x26 hX hty hW1
 have hbb : Below V2.drew.heap.size V2.drew V4 := hb1.trans (g2.below.mono hb1.size)
 replace hM := Hz.mk (hM.out.gr hbb)
 replace hbW := Hz.mk (hbW.out.trans ((Gr.below ((Gr.refl V2).drew) |>.trans hbb).mono hbW.out.size))
 clear hb1 g2 hbb
 obtain ⟨lx, hX⟩ := hM.out.oneX
 have hme := Hz.mk (memory_any B V4 a P s lx hX)
 clear hX
 go_wp2_with fail
 refine hme.out.mono ?_
 rintro r V5 ⟨rfl, hb5⟩
 replace hM := Hz.mk (hM.out.gr hb5)
 replace hbW := Hz.mk (hbW.out.trans (hb5.mono hbW.out.size))
 obtain ⟨ly, hY⟩ := hM.out.oneY
 have hmd := Hz.mk (dmemoryS_any B V5 b c P s s.g s.p ly hY)
 clear hY hme hb5
 generalize (ByteArray.mk (T.rowB s.m 0 65536).toArray) = mv at *
 go_wp2_with fail
 refine hmd.out.mono ?_
 rintro r V6 ⟨rfl, hb6⟩
 replace hbW := Hz.mk (hbW.out.trans (hb6.mono hbW.out.size))
 clear hmd hb6
 go_wp2_with fail
 go_ret
 exact ⟨rfl, hbW.out⟩
end Z
end Go.Proofs.YtmedafcmfbhjkaaGreat


namespace Go.Proofs.YtmedafcmfbhjkaaGreat
namespace Z
open Go.RowKit
open T (Sep Ob Kp Mf FlIn boxOb)

end Z
end Go.Proofs.YtmedafcmfbhjkaaGreat


namespace Go.Proofs.YtmedafcmfbhjkaaGreat
namespace Z
open Go.RowKit
open T (Sep Ob Kp Mf FlIn boxOb)

end Z
end Go.Proofs.YtmedafcmfbhjkaaGreat
