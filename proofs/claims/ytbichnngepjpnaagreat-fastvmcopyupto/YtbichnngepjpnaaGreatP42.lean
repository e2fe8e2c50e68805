import Derived.Test.YtbichnngepjpnaaGreatP41
import Derived.Test.YtbichnngepjpnaaGreatP37
import Derived.Test.YtbichnngepjpnaaGreatZSnEq
import Derived.Test.YtbichnngepjpnaaGreatP39
import Derived.Test.YtbichnngepjpnaaGreatP33
/-
  Stage 13, fastvm: a machine of a raw program.
-/
namespace Go.Proofs.YtbichnngepjpnaaGreat
namespace Z
open Go.RowKit
open T (Sep Ob Kp Mf FlIn boxOb)

/-- Numbers that came in. -/
def InL (w : World) (ia : Option Addr) (ic : Nat) (L : List Int) : Prop := (ia = none ∧ L = [] ∧ ic = 0) ∨ ∃ b off, ia = some ⟨b, off, none⟩ ∧ b < w.heap.size ∧ ∀ i (h : i < L.length), w.cell? ⟨b, off + i, none⟩ = some (.int .u64 L[i])
theorem InL.below {w W : World} {ia : Option Addr} {ic : Nat} {L : List Int} (h : InL w ia ic L) (g : Below w.heap.size w W) : InL W ia ic L := by
  rcases h with h | ⟨b, off, e1, e2, e3⟩
  · exact .inl h
  · exact .inr ⟨b, off, e1, Nat.lt_of_lt_of_le e2 g.size, fun i hi => (T.cell_of_block (g.block b e2) _).trans (e3 i hi)⟩
theorem WIn.below {w W : World} {a : Option Addr} {L : List Int} (h : WIn w a L) (g : Below w.heap.size w W) : WIn W a L := fun i hi => by
  obtain ⟨b, off, e1, e2, e3⟩ := h i hi
  exact ⟨b, off, e1, Nat.lt_of_lt_of_le e2 g.size, (T.cell_of_block (g.block b e2) _).trans e3⟩
theorem InL.win {w : World} {ia : Option Addr} {ic : Nat} {L : List Int} (h : InL w ia ic L) : WIn w ia L := fun i hi => by
  rcases h with ⟨_, rfl, _⟩ | ⟨b, off, e1, e2, e3⟩
  · exact absurd hi (Nat.not_lt_zero i)
  · exact ⟨b, off, e1, e2, e3 i hi⟩
def srcA (L : List Int) (j : Nat) : Int := L.getD j 0
/-- What is handed to New as arguments. -/
def SrcIn (w : World) (sa : Option Addr) (n : Nat) (A : Nat → Int) : Prop := n = 0 ∨ ∃ sb so, sa = some ⟨sb, so, none⟩ ∧ sb < w.heap.size ∧ ∀ j, j < n → w.cell? ⟨sb, so + j, none⟩ = some (.int .u64 (A j))
theorem SrcIn.below {w W : World} {sa : Option Addr} {n : Nat} {A : Nat → Int} (h : SrcIn w sa n A) (g : Below w.heap.size w W) : SrcIn W sa n A := by
  rcases h with h | ⟨b, off, e1, e2, e3⟩
  · exact .inl h
  · exact .inr ⟨b, off, e1, Nat.lt_of_lt_of_le e2 g.size, fun i hi => (T.cell_of_block (g.block b e2) _).trans (e3 i hi)⟩
theorem own_src {w : World} {lo n c : Nat} {va : Option Addr} {L : List Int} (h : w.ownsRow lo 31 1 (.slice va n c) n (L.map u64I)) (hl : L.length = n) : SrcIn w va n (srcA L) := by
  by_cases h0 : 0 < n
  · obtain ⟨g, cap, e, hg, hc⟩ := own_at h h0
    injection e with e1 e2 e3
    refine .inr ⟨g, 0, e1, hg, fun j hj => ?_⟩
    rw [Nat.zero_add]
    refine hc j _ ?_
    have hj2 : j < L.length := by omega
    simp [srcA, u64I, hj2]
  · exact .inl (by omega)
theorem ent_n (a : Int) : ∃ n : Nat, n ≤ 20 ∧ ((n : Int) = a ∨ (a < 0 ∧ n = 0) ∨ (20 < a ∧ n = 20)) := by
  by_cases h : a < 0
  · exact ⟨0, by omega, .inr (.inl ⟨h, rfl⟩)⟩
  · by_cases h2 : 20 < a
    · exact ⟨20, by omega, .inr (.inr ⟨h2, rfl⟩)⟩
    · exact ⟨a.toNat, by omega, .inl (by omega)⟩
theorem entry_all (R : Rp) (ca ga : Option Addr) (cc gc : Nat) (mem : ByteArray) (gate : Int) (A : List Int) (sa : Option Addr) (sc : Nat) (w : World) (hP : RpIn w ca ga R) (hA : WIn w sa A) :
    Calls Tryz.prog 19 #[.agg #[.slice ca R.code.length cc, .slice ga R.gates.length gc, .string mem, .int .i64 R.dep], .int .i64 gate, .slice sa A.length sc] w fun x w' => ∃ g va n vc, x = .returned (.tuple #[.int .i64 g, .slice va n vc]) ∧ (gate < 0 → g < 0) ∧ Below w.heap.size w w' := by
  by_cases h : R.gates.length = 0 ∨ gate < 0
  · refine (entry_none R ca ga cc gc mem gate (.slice sa A.length sc) w h).mono ?_
    rintro x w' ⟨rfl, g⟩
    exact ⟨gate, sa, A.length, sc, rfl, fun q => q, g.below⟩
  · have h0 : 0 < R.gates.length := by omega
    have hg : 0 ≤ gate := by omega
    obtain ⟨n, hn, hn2⟩ := ent_n (R.gates[gate.toNat % R.gates.length]'(Nat.mod_lt _ h0)).a
    have q := entry_any R ca ga cc gc mem gate.toNat (gate.toNat % R.gates.length) A sa sc w hP hA h0 rfl (Nat.mod_lt _ h0) n hn hn2
    rw [Int.toNat_of_nonneg hg] at q
    refine q.mono ?_
    rintro x w' ⟨v, rfl, ho, hb⟩
    obtain ⟨va, vc, rfl⟩ := own_slZ ho
    exact ⟨_, va, n, vc, rfl, fun q => by omega, hb⟩
theorem str_ok {R : Rp} {mem : List UInt8} (h : R.Ok (T.str mem).size) : R.Ok mem.length := by
  have e : (T.str mem).size = mem.length := by simp [T.str, ByteArray.size]
  rwa [e] at h
set_option maxRecDepth 100000 in
set_option maxHeartbeats 4000000 in
theorem begun_none (R : Rp) (ca ga : Option Addr) (cc gc : Nat) (mem : List UInt8) (gate : Int) (A : List Int) (sa : Option Addr) (sc : Nat) (ia : Option Addr) (ic : Nat) (L : List Int) (w : World) (hP : RpIn w ca ga R) (is : R.Is) (hA : WIn w sa A) (hI : InL w ia ic L) (hc : R.code.length ≤ 1500000) (hr : ∀ r ∈ R.code, r.length ≤ 2000000) (hg : R.gates.length ≤ 2000000) (hno : ¬ (R.Ok mem.length ∧ 0 ≤ gate)) :
    Calls Tryz.prog 5 #[.agg #[.slice ca R.code.length cc, .slice ga R.gates.length gc, .string (T.str mem), .int .i64 R.dep], .int .i64 gate, .slice sa A.length sc, .slice ia L.length ic] w fun x w' => x = .returned (.pointer none) ∧ Below w.heap.size w w' := by
  replace hno := Hz.mk hno
  replace is := Hz.mk is
  replace hr := Hz.mk hr
  replace hI := Hz.mk hI
  replace hA := Hz.mk hA
  replace hc := Hz.mk hc
  replace hg := Hz.mk hg
  go_enter Tryz.func5, Tryz.ntmps5
  go_upto_region 1 with fail
  refine wp_world (fun W => At W w.heap.size #[.slice ca R.code.length cc, .slice ga R.gates.length gc, .string (T.str mem), .int .i64 R.dep] ∧ Gr w W) ⟨At.new w _ _, (Gr.refl _).alloc _⟩ ?_
  rintro W ⟨hQ, G⟩
  have d0 : W.cell? ⟨w.heap.size, 0, none⟩ = some (.slice ca R.code.length cc) := hQ.2.1 0
  have d1 : W.cell? ⟨w.heap.size, 1, none⟩ = some (.slice ga R.gates.length gc) := hQ.2.1 1
  have d2 : W.cell? ⟨w.heap.size, 2, none⟩ = some (.string (T.str mem)) := hQ.2.1 2
  have d3 : W.cell? ⟨w.heap.size, 3, none⟩ = some (.int .i64 R.dep) := hQ.2.1 3
  replace hP := Hz.mk (hP.gr G)
  replace hA := Hz.mk (hA.out.gr G)
  replace hI := Hz.mk (hI.out.below G.below)
  replace G := Hz.mk G.below
  have hkp := Hz.mk hQ.1
  generalize hkk : w.heap.size = kp at *
  replace hkk := Hz.mk hkk
  replace hQ := Hz.mk hQ
  have hent := Hz.mk (entry_all R ca ga cc gc (T.str mem) gate A sa sc W hP.out hA.out)
  go_wp2_with fail
  refine hent.out.mono ?_
  rintro r V1 ⟨g, va, n, vc, rfl, hgg, hB⟩
  replace hB := Hz.mk hB
  replace hgg := Hz.mk hgg
  clear d0 d1 d2 d3 hent
  replace hQ := Hz.mk (at_below hQ.out hB.out hkp.out)
  replace hP := Hz.mk (hP.out.below_ hB.out)
  replace hI := Hz.mk (hI.out.below hB.out)
  replace G := Hz.mk (G.out.trans (hB.out.mono (by have := hkp.out; omega)))
  replace hkp := Hz.mk (Nat.lt_of_lt_of_le hkp.out hB.out.size)
  clear hB hA
  have d0 : V1.cell? ⟨kp, 0, none⟩ = some (.slice ca R.code.length cc) := hQ.out.2.1 0
  have d1 : V1.cell? ⟨kp, 1, none⟩ = some (.slice ga R.gates.length gc) := hQ.out.2.1 1
  have d2 : V1.cell? ⟨kp, 2, none⟩ = some (.string (T.str mem)) := hQ.out.2.1 2
  have d3 : V1.cell? ⟨kp, 3, none⟩ = some (.int .i64 R.dep) := hQ.out.2.1 3
  have hlen := Hz.mk (lent_any R ca ga cc gc (T.str mem) V1 hP.out hc.out hr.out hg.out)
  go_wp2_with fail
  refine hlen.out.mono ?_
  rintro r V2 ⟨kc, kg, v9, rfl, hP2, hB2⟩
  clear d0 d1 d2 d3 hlen hQ hP
  replace hP := Hz.mk hP2
  replace hB := Hz.mk hB2
  clear hP2 hB2
  replace hI := Hz.mk (hI.out.below hB.out)
  replace G := Hz.mk (G.out.trans (hB.out.mono (by have := hkp.out; omega)))
  clear hB hkp
  go_upto_region 3 with fail
  refine wp_world (fun V => At V V2.heap.size #[.slice (some ⟨kc, 0, none⟩) R.code.length (R.code.length + 8), .slice (some ⟨kg, 0, none⟩) R.gates.length (R.gates.length + 8), .string (T.str mem), .int .i64 R.dep] ∧ Gr V2 V) ⟨At.new V2 _ _, (Gr.refl _).alloc _⟩ ?_
  rintro V3 ⟨hQ, G2⟩
  replace hP := Hz.mk (hP.out.gr G2)
  replace hI := Hz.mk (hI.out.below G2.below)
  replace G := Hz.mk (G.out.trans (G2.below.mono (by have := G.out.size; have := hkk.out; omega)))
  clear G2
  generalize V2.heap.size = kq at *
  have d0 : V3.cell? ⟨kq, 0, none⟩ = some (.slice (some ⟨kc, 0, none⟩) R.code.length (R.code.length + 8)) := hQ.2.1 0
  have d1 : V3.cell? ⟨kq, 1, none⟩ = some (.slice (some ⟨kg, 0, none⟩) R.gates.length (R.gates.length + 8)) := hQ.2.1 1
  have d2 : V3.cell? ⟨kq, 2, none⟩ = some (.string (T.str mem)) := hQ.2.1 2
  have d3 : V3.cell? ⟨kq, 3, none⟩ = some (.int .i64 R.dep) := hQ.2.1 3
  replace hQ := Hz.mk hQ
  have hnew := Hz.mk (new_no70 R (some ⟨kc, 0, none⟩) (some ⟨kg, 0, none⟩) (R.code.length + 8) (R.gates.length + 8) mem g va n vc (.slice ia L.length ic) V3 hP.out is.out (fun q => hno.out ⟨str_ok q.1, by have := hgg.out; omega⟩))
  go_wp2_with fail
  refine hnew.out.mono ?_
  rintro r V4 ⟨rfl, gV⟩
  clear d0 d1 d2 d3 hnew
  go_wp2_with fail
  go_ret
  exact ⟨rfl, hkk.out ▸ (G.out.trans (gV.below.mono (by have := G.out.size; have := hkk.out; omega)))⟩
set_option maxRecDepth 100000 in
set_option maxHeartbeats 4000000 in
theorem begun_some (R : Rp) (ca ga : Option Addr) (cc gc : Nat) (mem : List UInt8) (gate : Nat) (A : List Int) (sa : Option Addr) (sc : Nat) (ia : Option Addr) (ic : Nat) (L : List Int) (w : World) (hP : RpIn w ca ga R) (is : R.Is) (hA : WIn w sa A) (hI : InL w ia ic L) (hc : R.code.length ≤ 1500000) (hr : ∀ r ∈ R.code, r.length ≤ 2000000) (hg : R.gates.length ≤ 2000000) (ok : R.Ok mem.length) (g n : Nat) (h0 : 0 < R.gates.length) (hgq : g = gate % R.gates.length) (hgl : g < R.gates.length) (hna : (n : Int) = R.gates[g].a) (hlL : L.length ≤ 2000000) :
    Calls Tryz.prog 5 #[.agg #[.slice ca R.code.length cc, .slice ga R.gates.length gc, .string (T.str mem), .int .i64 R.dep], .int .i64 gate, .slice sa A.length sc, .slice ia L.length ic] w fun x w' => ∃ a, x = .returned (.pointer (some ⟨a, 0, none⟩)) ∧ MIn w.heap.size w' a R.pr (start R.gates[g].fg g n (srcA (entL A n)) L mem) [] ∧ Below w.heap.size w w' := by
  have hn20 : n ≤ 20 := by
    obtain ⟨_, _, _, hq⟩ := ok.gt g hgl
    have := hq.2.1
    omega
  replace ok := Hz.mk ok
  replace hna := Hz.mk hna
  replace hgq := Hz.mk hgq
  replace hlL := Hz.mk hlL
  replace is := Hz.mk is
  replace hr := Hz.mk hr
  replace hI := Hz.mk hI
  replace hA := Hz.mk hA
  replace hc := Hz.mk hc
  replace hg := Hz.mk hg
  go_enter Tryz.func5, Tryz.ntmps5
  go_upto_region 1 with fail
  refine wp_world (fun W => At W w.heap.size #[.slice ca R.code.length cc, .slice ga R.gates.length gc, .string (T.str mem), .int .i64 R.dep] ∧ Gr w W) ⟨At.new w _ _, (Gr.refl _).alloc _⟩ ?_
  rintro W ⟨hQ, G⟩
  have d0 : W.cell? ⟨w.heap.size, 0, none⟩ = some (.slice ca R.code.length cc) := hQ.2.1 0
  have d1 : W.cell? ⟨w.heap.size, 1, none⟩ = some (.slice ga R.gates.length gc) := hQ.2.1 1
  have d2 : W.cell? ⟨w.heap.size, 2, none⟩ = some (.string (T.str mem)) := hQ.2.1 2
  have d3 : W.cell? ⟨w.heap.size, 3, none⟩ = some (.int .i64 R.dep) := hQ.2.1 3
  replace hP := Hz.mk (hP.gr G)
  replace hA := Hz.mk (hA.out.gr G)
  replace hI := Hz.mk (hI.out.below G.below)
  replace G := Hz.mk G.below
  have hkp := Hz.mk hQ.1
  generalize hkk : w.heap.size = kp at *
  replace hkk := Hz.mk hkk
  replace hQ := Hz.mk hQ
  have hent := Hz.mk (entry_any R ca ga cc gc (T.str mem) gate g A sa sc W hP.out hA.out h0 hgq.out hgl n hn20 (.inl hna.out))
  go_wp2_with fail
  refine hent.out.mono ?_
  rintro r V1 ⟨v, rfl, hown, hB⟩
  obtain ⟨va, vc, rfl⟩ := own_slZ hown
  have hS := Hz.mk (own_src hown (entL_len A n))
  clear hown
  replace hB := Hz.mk hB
  clear d0 d1 d2 d3 hent
  replace hQ := Hz.mk (at_below hQ.out hB.out hkp.out)
  replace hP := Hz.mk (hP.out.below_ hB.out)
  replace hI := Hz.mk (hI.out.below hB.out)
  replace G := Hz.mk (G.out.trans (hB.out.mono (by have := hkp.out; omega)))
  replace hkp := Hz.mk (Nat.lt_of_lt_of_le hkp.out hB.out.size)
  clear hB hA
  have d0 : V1.cell? ⟨kp, 0, none⟩ = some (.slice ca R.code.length cc) := hQ.out.2.1 0
  have d1 : V1.cell? ⟨kp, 1, none⟩ = some (.slice ga R.gates.length gc) := hQ.out.2.1 1
  have d2 : V1.cell? ⟨kp, 2, none⟩ = some (.string (T.str mem)) := hQ.out.2.1 2
  have d3 : V1.cell? ⟨kp, 3, none⟩ = some (.int .i64 R.dep) := hQ.out.2.1 3
  have hlen := Hz.mk (lent_any R ca ga cc gc (T.str mem) V1 hP.out hc.out hr.out hg.out)
  go_wp2_with fail
  refine hlen.out.mono ?_
  rintro r V2 ⟨kc, kg, v9, rfl, hP2, hB2⟩
  clear d0 d1 d2 d3 hlen hQ hP
  replace hP := Hz.mk hP2
  replace hB := Hz.mk hB2
  clear hP2 hB2
  replace hI := Hz.mk (hI.out.below hB.out)
  replace hS := Hz.mk (hS.out.below hB.out)
  replace G := Hz.mk (G.out.trans (hB.out.mono (by have := hkp.out; omega)))
  clear hB hkp
  go_upto_region 3 with fail
  refine wp_world (fun V => At V V2.heap.size #[.slice (some ⟨kc, 0, none⟩) R.code.length (R.code.length + 8), .slice (some ⟨kg, 0, none⟩) R.gates.length (R.gates.length + 8), .string (T.str mem), .int .i64 R.dep] ∧ Gr V2 V) ⟨At.new V2 _ _, (Gr.refl _).alloc _⟩ ?_
  rintro V3 ⟨hQ, G2⟩
  replace hP := Hz.mk (hP.out.gr G2)
  replace hI := Hz.mk (hI.out.below G2.below)
  replace hS := Hz.mk (hS.out.below G2.below)
  replace G := Hz.mk (G.out.trans (G2.below.mono (by have := G.out.size; have := hkk.out; omega)))
  clear G2
  generalize V2.heap.size = kq at *
  have d0 : V3.cell? ⟨kq, 0, none⟩ = some (.slice (some ⟨kc, 0, none⟩) R.code.length (R.code.length + 8)) := hQ.2.1 0
  have d1 : V3.cell? ⟨kq, 1, none⟩ = some (.slice (some ⟨kg, 0, none⟩) R.gates.length (R.gates.length + 8)) := hQ.2.1 1
  have d2 : V3.cell? ⟨kq, 2, none⟩ = some (.string (T.str mem)) := hQ.2.1 2
  have d3 : V3.cell? ⟨kq, 3, none⟩ = some (.int .i64 R.dep) := hQ.2.1 3
  replace hQ := Hz.mk hQ
  have hnew := Hz.mk (new_raw R (some ⟨kc, 0, none⟩) (some ⟨kg, 0, none⟩) (R.code.length + 8) (R.gates.length + 8) mem g va n vc (srcA (entL A n)) ia ic L V3 hP.out is.out ok.out hgl hna.out hS.out hlL.out hI.out)
  go_wp2_with fail
  refine hnew.out.mono ?_
  rintro r V4 ⟨a, rfl, hM, hB⟩
  replace hM := Hz.mk hM
  replace hB := Hz.mk hB
  clear d0 d1 d2 d3 hnew
  go_wp2_with fail
  go_ret
  exact ⟨a, rfl, hM.out.lower (by have := G.out.size; have := hkk.out; omega), hkk.out ▸ G.out.trans (hB.out.mono (by have := G.out.size; have := hkk.out; omega))⟩
end Z
end Go.Proofs.YtbichnngepjpnaaGreat


/-
  Stage 13, fastvm: what is asked of machines.
-/
namespace Go.Proofs.YtbichnngepjpnaaGreat
namespace Z
open Go.RowKit
open T (Sep Ob Kp Mf FlIn boxOb)

theorem own_win {w : World} {lo n : Nat} {v : Value} {L : List Int} (h : w.ownsRow lo 31 1 v n (L.map u64I)) (hn : n = L.length) : ∃ a c, v = .slice a L.length c ∧ WIn w a L := by
  obtain ⟨a, c, e⟩ := own_slZ h
  subst hn
  refine ⟨a, c, e, fun i hi => ?_⟩
  obtain ⟨g, cap, e2, hg, hc⟩ := own_at h (by omega)
  rw [e] at e2
  injection e2 with e3
  refine ⟨g, 0, e3, hg, ?_⟩
  rw [Nat.zero_add]
  refine hc i _ ?_
  simp [u64I, hi]
theorem own_tin {w : World} {lo n : Nat} {v : Value} {L : List Tc} (h : w.ownsRow lo 60 3 v n (L.flatMap Tc.vals)) (hn : n = L.length) : ∃ a c, v = .slice a L.length c ∧ T.EIn 3 Tc.vals w a L := by
  obtain ⟨a, c, e⟩ := own_slZ h
  subst hn
  refine ⟨a, c, e, fun i hi => ?_⟩
  obtain ⟨g, cap, e2, hg, hc⟩ := own_at h (by omega)
  rw [e] at e2
  injection e2 with e3
  refine ⟨g, 0, e3, hg, fun j u hj => ?_⟩
  rw [Nat.zero_add]
  refine hc _ _ ?_
  have hj3 : j < 3 := by
    have := (List.getElem?_eq_some_iff.1 hj).1
    exact this
  rw [flat_at' (k := 3) (fun _ => rfl) L i hi j hj3]
  exact hj
theorem outs_any (B : Nat) (W : World) (a : Nat) (P : Pr) (s : Fm) (l : List Ob) (h : MIn B W a P s l) (hl : s.out.length ≤ 1000000) :
    Calls Tryz.prog 12 #[.pointer (some ⟨a, 0, none⟩)] W fun x w' => ∃ va c, x = .returned (.slice va s.out.length c) ∧ WIn w' va s.out ∧ Below W.heap.size W w' := by
  refine (out_any B W a P s l h hl).mono ?_
  rintro x w' ⟨v, rfl, h1, h2⟩
  obtain ⟨va, c, rfl, h3⟩ := own_win h1 rfl
  exact ⟨va, c, rfl, h3, h2⟩
theorem tcs_any (B : Nat) (W : World) (a : Nat) (P : Pr) (s : Fm) (l : List Ob) (h : MIn B W a P s l) (hl : s.tc.length ≤ 1000000) :
    Calls Tryz.prog 14 #[.pointer (some ⟨a, 0, none⟩)] W fun x w' => ∃ va c, x = .returned (.slice va s.tc.length c) ∧ T.EIn 3 Tc.vals w' va s.tc ∧ Below W.heap.size W w' := by
  refine (touches_any B W a P s l h hl).mono ?_
  rintro x w' ⟨v, rfl, h1, h2⟩
  obtain ⟨va, c, rfl, h3⟩ := own_tin h1 rfl
  exact ⟨va, c, rfl, h3, h2⟩
theorem sameW_self (A : List Int) (sa sb : Option Addr) (ca cb : Nat) (w : World) (hA : WIn w sa A) (hB : WIn w sb A) (hl : A.length ≤ 1000000) :
    Calls Tryz.prog 11 #[.slice sa A.length ca, .slice sb A.length cb] w fun x w' => x = .returned (.bool true) ∧ Gr w w' := by
  refine (sameWords_any A A sa sb ca cb w hA hB hl).mono ?_
  rintro x w' ⟨⟨b, rfl, h1⟩, h2⟩
  rw [h1.2 rfl]
  exact ⟨rfl, h2⟩
theorem sameT_self (A : List Tc) (sa sb : Option Addr) (ca cb : Nat) (w : World) (hA : T.EIn 3 Tc.vals w sa A) (hB : T.EIn 3 Tc.vals w sb A) (hl : A.length ≤ 1000000) :
    Calls Tryz.prog 13 #[.slice sa A.length ca, .slice sb A.length cb] w fun x w' => x = .returned (.bool true) ∧ Gr w w' := by
  refine (sameTouches_any A A sa sb ca cb w hA hB hl).mono ?_
  rintro x w' ⟨⟨b, rfl, h1⟩, h2⟩
  rw [h1.2 rfl]
  exact ⟨rfl, h2⟩
/-- What a machine's calls say of its outcome, cell by cell. -/
theorem step_oc (P : Pr) (ok : P.Ok) (rr : P.Rr) (s : Fm) (c : Nat) (hs : s.Okn P c) (hn : c + 1 ≤ 1000000) (t : Fm) (ht : stepsM P s 1 = t) (B : Nat) (W : World) (a : Nat) (l : List Ob) (h : MIn B W a P s l) :
    Calls Tryz.prog 6 #[.pointer (some ⟨a, 0, none⟩)] W fun x w' => x = .returned (.agg #[.int .i64 t.e, .int .u64 t.v, .int .i64 t.f, .int .i64 t.g, .int .i64 t.p]) ∧ MIn B w' a P t l ∧ Below B W w' := by
  rw [← ht]
  exact step_op P ok rr s c hs hn B W a l h
theorem run_oc (P : Pr) (ok : P.Ok) (rr : P.Rr) (s : Fm) (c n : Nat) (hs : s.Okn P c) (hn : c + n ≤ 1000000) (hn2 : n ≤ 100000) (t : Fm) (ht : runM P s n = t) (B : Nat) (W : World) (a : Nat) (l : List Ob) (h : MIn B W a P s l) :
    Calls Tryz.prog 10 #[.pointer (some ⟨a, 0, none⟩), .int .i64 n] W fun x w' => x = .returned (.agg #[.int .i64 t.e, .int .u64 t.v, .int .i64 t.f, .int .i64 t.g, .int .i64 t.p]) ∧ MIn B w' a P t l ∧ Below B W w' := by
  rw [← ht]
  exact run_all P ok rr s c n hs hn hn2 B W a l h
theorem okn_runM (P : Pr) (ok : P.Ok) (rr : P.Rr) (s : Fm) (n : Nat) (hs : s.Okn P n) (k : Nat) : (runM P s k).Okn P (n + k) := by
  have h := okn_stepsM P ok rr s n hs k
  unfold runM
  split
  · exact h.end 4 0 wd0
  · exact h
theorem oc_ne5 (e v f g p : Int) (W : World) : (binOp .neq 34 (.agg #[.int .i64 e, .int .u64 v, .int .i64 f, .int .i64 g, .int .i64 p]) (.agg #[.int .i64 e, .int .u64 v, .int .i64 f, .int .i64 g, .int .i64 p])).run Tryz.prog W = .ok (.bool false) W := by simp [go_sem]
theorem oc_eq5 (e v f g p : Int) (W : World) : (binOp .eql 34 (.agg #[.int .i64 e, .int .u64 v, .int .i64 f, .int .i64 g, .int .i64 p]) (.agg #[.int .i64 e, .int .u64 v, .int .i64 f, .int .i64 g, .int .i64 p])).run Tryz.prog W = .ok (.bool true) W := by simp [go_sem]
end Z
end Go.Proofs.YtbichnngepjpnaaGreat


/-
  Stage 13, fastvm: what came in, and the machine of it.
-/
namespace Go.Proofs.YtbichnngepjpnaaGreat
namespace Z
open Go.RowKit
open T (Sep Ob Kp Mf FlIn boxOb)

/-- A program, arguments and inputs that came in. -/
structure Bgn (w : World) (R : Rp) (ca ga : Option Addr) (mem : List UInt8) (A : List Int) (sa : Option Addr) (ia : Option Addr) (ic : Nat) (L : List Int) : Prop where
  hP : RpIn w ca ga R
  wd : R.Wds
  hA : WIn w sa A
  Aw : ∀ x ∈ A, Wd x
  hI : InL w ia ic L
  Lw : ∀ x ∈ L, Wd x
  c : R.code.length ≤ 1500000
  r : ∀ r ∈ R.code, r.length ≤ 2000000
  g : R.gates.length ≤ 2000000
  l : L.length ≤ 2000000
theorem Bgn.below {w W : World} {R : Rp} {ca ga : Option Addr} {mem : List UInt8} {A : List Int} {sa : Option Addr} {ia : Option Addr} {ic : Nat} {L : List Int} (h : Bgn w R ca ga mem A sa ia ic L) (q : Below w.heap.size w W) : Bgn W R ca ga mem A sa ia ic L :=
  ⟨h.hP.below_ q, h.wd, h.hA.below q, h.Aw, h.hI.below q, h.Lw, h.c, h.r, h.g, h.l⟩
def zRg : Rg := ⟨0, 0, 0, fun _ => 0⟩
def gNo (R : Rp) (gate : Int) : Nat := gate.toNat % R.gates.length
def aNo (R : Rp) (gate : Int) : Nat := (R.gates.getD (gNo R gate) zRg).a.toNat
/-- How its machine begins. -/
def st0 (R : Rp) (gate : Int) (A L : List Int) (mem : List UInt8) : Fm := start (R.gates.getD (gNo R gate) zRg).fg (gNo R gate) (aNo R gate) (srcA (entL A (aNo R gate))) L mem
theorem st0_e (R : Rp) (gate : Int) (A L : List Int) (mem : List UInt8) : (st0 R gate A L mem).e = 0 := rfl
section
variable {w : World} {R : Rp} {ca ga : Option Addr} {mem : List UInt8} {A : List Int} {sa : Option Addr} {ia : Option Addr} {ic : Nat} {L : List Int}
theorem src_wd (hA : ∀ x ∈ A, Wd x) (n : Nat) (hn : n ≤ 20) : ∀ j, Wd (srcA (entL A n) j) := fun j => by
  unfold srcA
  by_cases hj : j < n
  · have e : (entL A n).getD j 0 = A.getD j (j : Int) := by simp [entL, hj]
    rw [e]
    by_cases h2 : j < A.length
    · rw [show A.getD j (j : Int) = A[j] by simp [h2]]
      exact hA _ (List.getElem_mem h2)
    · rw [show A.getD j (j : Int) = (j : Int) by simp [h2]]
      exact ⟨by omega, by omega⟩
  · rw [show (entL A n).getD j 0 = 0 by simp [entL, hj]]
    exact wd0
theorem Rp.Ok.at (ok : R.Ok mem.length) (gate : Int) : gNo R gate < R.gates.length ∧ aNo R gate ≤ 7 ∧ ∃ h : gNo R gate < R.gates.length, R.gates.getD (gNo R gate) zRg = R.gates[gNo R gate] ∧ ((aNo R gate : Nat) : Int) = R.gates[gNo R gate].a := by
  have h0 : 0 < R.gates.length := ok.n1.1
  have h : gNo R gate < R.gates.length := Nat.mod_lt _ h0
  have e : R.gates.getD (gNo R gate) zRg = R.gates[gNo R gate] := by simp [h]
  obtain ⟨_, _, _, hq⟩ := ok.gt _ h
  have h2 := hq.2.1
  refine ⟨h, ?_, h, e, ?_⟩
  · unfold aNo; rw [e]; omega
  · unfold aNo; rw [e]; omega
theorem Bgn.okn (h : Bgn w R ca ga mem A sa ia ic L) (ok : R.Ok mem.length) (gate : Int) : (st0 R gate A L mem).Okn R.pr 0 := by
  obtain ⟨h1, h2, h3, h4, h5⟩ := ok.at gate
  unfold st0
  rw [h4]
  exact start_okn R mem.length _ _ _ L mem h.wd ok h1 (src_wd h.Aw _ (by omega)) h.Lw h.l
theorem Bgn.some (h : Bgn w R ca ga mem A sa ia ic L) (ok : R.Ok mem.length) (gate : Int) (h0 : 0 ≤ gate) (cc gc sc : Nat) :
    Calls Tryz.prog 5 #[.agg #[.slice ca R.code.length cc, .slice ga R.gates.length gc, .string (T.str mem), .int .i64 R.dep], .int .i64 gate, .slice sa A.length sc, .slice ia L.length ic] w fun x w' => ∃ a, x = .returned (.pointer (some ⟨a, 0, none⟩)) ∧ MIn w.heap.size w' a R.pr (st0 R gate A L mem) [] ∧ Below w.heap.size w w' := by
  obtain ⟨h1, h2, h3, h4, h5⟩ := ok.at gate
  have q := begun_some R ca ga cc gc mem gate.toNat A sa sc ia ic L w h.hP h.wd.code h.hA h.hI h.c h.r h.g ok (gNo R gate) (aNo R gate) ok.n1.1 rfl h1 h5 h.l
  rw [Int.toNat_of_nonneg h0] at q
  unfold st0
  rw [h4]
  exact q
theorem Bgn.none (h : Bgn w R ca ga mem A sa ia ic L) (gate : Int) (hno : ¬ (R.Ok mem.length ∧ 0 ≤ gate)) (cc gc sc : Nat) :
    Calls Tryz.prog 5 #[.agg #[.slice ca R.code.length cc, .slice ga R.gates.length gc, .string (T.str mem), .int .i64 R.dep], .int .i64 gate, .slice sa A.length sc, .slice ia L.length ic] w fun x w' => x = .returned (.pointer none) ∧ Below w.heap.size w w' :=
  begun_none R ca ga cc gc mem gate A sa sc ia ic L w h.hP h.wd.code h.hA h.hI h.c h.r h.g hno
end
theorem stepsM_one (P : Pr) (s : Fm) (k : Nat) : stepsM P (stepsM P s k) 1 = stepsM P s (k + 1) := rfl
/-- What a run of so much fuel leaves: as so many steps, but for how it ends. -/
theorem runM_as (P : Pr) (s : Fm) (n : Nat) : (runM P s n).out = (stepsM P s n).out ∧ (runM P s n).tc = (stepsM P s n).tc ∧ (runM P s n).g = (stepsM P s n).g ∧ (runM P s n).p = (stepsM P s n).p ∧ (runM P s n).st = (stepsM P s n).st ∧ (runM P s n).r = (stepsM P s n).r ∧ (runM P s n).m = (stepsM P s n).m := by
  unfold runM
  split <;> exact ⟨rfl, rfl, rfl, rfl, rfl, rfl, rfl⟩
end Z
end Go.Proofs.YtbichnngepjpnaaGreat
