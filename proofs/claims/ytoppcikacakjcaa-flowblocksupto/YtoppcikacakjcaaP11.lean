import Derived.Test.YtoppcikacakjcaaP07
import Derived.Test.YtoppcikacakjcaaP10
import Derived.Laws.EntriesVeiled
/-
  Stage 8, flow: code and entries that came in.
-/
namespace Go.Proofs.Ytoppcikacakjcaa
open Go.ChangeShapes Go.WideShapes Go.ChangeAt Go.RowKit Go.Deep

/-- What a row that came in reads as: so many elements. -/
def Long1 {H : Type} (d : DataW H) (n : Nat) : Prop := (d = .nil ∧ n = 0) ∨ ∃ elems spare, d = .slice elems spare ∧ elems.length = n
theorem bulk_long1 {H : Type} {d : DataW H} {n : Nat} (h : Long1 d n) : n ≤ Rows.uptoBulk d := by
  rcases h with ⟨_, rfl⟩ | ⟨e, s, rfl, rfl⟩
  · omega
  · have := bulk_len e; simp only [Rows.uptoBulk]; omega
theorem no_spot1 {W : World} {a : Addr} {v0 : Value} (h : W.cells? 0 (a.add (0 * 1)) 1 = some [v0]) : a.spot = none := by
  obtain ⟨_, _, hc⟩ := World.cells?_some h
  have c0 := hc 0 (by omega)
  simp only [Nat.zero_mul, Addr.add, if_true] at c0
  exact World.cell?_spot (c0.trans rfl)
theorem one_cell {W : World} {a : Addr} {i : Nat} {v0 : Value} (hs : a.spot = none) (h : W.cells? 0 (a.add (i * 1)) 1 = some [v0]) :
    ∃ b off, a = ⟨b, off, none⟩ ∧ b < W.heap.size ∧ W.cell? ⟨b, off + i, none⟩ = some v0 := by
  obtain ⟨_, _, hc⟩ := World.cells?_some h
  have c0 := hc 0 (by omega)
  obtain ⟨b, off, spot⟩ := a
  obtain rfl : spot = none := hs
  rw [addr_add, addr_add, Nat.mul_one, Nat.add_zero] at c0
  have hlt := World.block_lt_of_cell? W _ (c0.trans rfl)
  exact ⟨b, off, rfl, hlt, c0⟩
theorem open_nums {H : Type} {enc : TypeId × Value → H} {W : World} {spare : Nat → Bool} {held : Bool} {a : Option Addr} {len cap : Nat} {d : DataW H} {ps : List MemPlace}
    (h : DataW.Trod enc Try.prog W 0 spare held 23 (.slice a len cap) d ps) : ∃ E : List Int, E.length = len ∧ F.NIn W.heap.size W a E ∧ F.NilOk a len cap ∧ Long1 d len := by
  obtain ⟨fuel, hf⟩ := h
  have k1 : Try.prog.cellsOf 3 = 1 := by kernel_rfl
  rcases open_slice Try.underlying23 hf with ⟨hcs, hx⟩ | ⟨x, l, c, m, n, D, Pl, hcs, _, hl, hm, hmm, hx2, hx⟩
  · simp [Value.cells] at hcs
    obtain ⟨rfl, rfl, rfl⟩ := hcs
    simp only [Prod.mk.injEq] at hx
    exact ⟨[], rfl, fun i hi => by simp at hi, fun _ => ⟨rfl, rfl⟩, .inl ⟨hx.1, rfl⟩⟩
  · simp [Value.cells] at hcs
    obtain ⟨rfl, rfl, rfl⟩ := hcs
    have hlm : len ≤ m := by rw [hmm]; split <;> omega
    have hk : ∀ i, i < len → ∃ k : Int, W.cells? 0 (x.add (i * 1)) 1 = some [.int .i64 k] := fun i hi => by
      obtain ⟨cs', e1, e2⟩ := hx i (by omega)
      obtain ⟨p, rfl, _, _⟩ := DataW.trod_int Try.underlying3 e2
      rw [k1] at e1
      exact ⟨p, e1⟩
    obtain ⟨E, hE, hp⟩ := choose_list _ _ hk
    simp only [Prod.mk.injEq] at hx2
    refine ⟨E, hE, fun i hi => ?_, fun e => (by cases e), .inr ⟨_, _, hx2.1, by simp⟩⟩
    have hs : x.spot = none := no_spot1 (hp 0 (by omega))
    obtain ⟨b, off, rfl, hb, h1⟩ := one_cell hs (hp i hi)
    exact ⟨b, off, rfl, hb, hb, h1⟩
theorem insts_nil {H : Type} {enc : TypeId × Value → H} {W : World} {spare : Nat → Bool} {held : Bool} {a : Option Addr} {len cap : Nat} {d : DataW H} {ps : List MemPlace}
    (h : DataW.Trod enc Try.prog W 0 spare held 22 (.slice a len cap) d ps) : F.NilOk a len cap := by
  obtain ⟨fuel, hf⟩ := h
  rcases open_slice Try.underlying22 hf with ⟨hcs, hx⟩ | ⟨x, l, c, m, n, D, Pl, hcs, _⟩
  · simp [Value.cells] at hcs
    obtain ⟨rfl, rfl, rfl⟩ := hcs
    exact fun _ => ⟨rfl, rfl⟩
  · simp [Value.cells] at hcs
    obtain ⟨rfl, rfl, rfl⟩ := hcs
    exact fun e => by cases e
end Go.Proofs.Ytoppcikacakjcaa


/-
  Stage 8, flow: comeTo, whole.
-/
namespace Go.Proofs.Ytoppcikacakjcaa
namespace F
open Go.RowKit
open T

theorem own_slice {w : World} {b : Nat} {v : Value} {E : List Int} (h : IOwn w b v E) : ∃ a cap, v = .slice a E.length cap := by
  rcases h.2 with ⟨rfl, h0⟩ | ⟨g, cap, cur, rfl, _⟩
  · exact ⟨none, 0, by rw [h0]⟩
  · exact ⟨_, cap, rfl⟩
def comeP (h cc bw : Nat) (ca : Option Addr) : CP := ⟨h + 2, bw, h + 4, h, bw + 1, h + 3, cc, ca⟩
set_option maxHeartbeats 1000000 in
theorem come_start {L : List Ins} {E : List Int} {cc : Nat} {ca : Option Addr} {w w1 w3 w4 : World} {v : Value} {s : Nat → Bool} {t1 t2 t3 t4 t5 : TypeId} {rb : Array Value}
    (hL : LIn w.heap.size w ca L)
    (a0 : Below (w.heap.size + 2) ((w.alloc (.cells #[.slice ca L.length cc] t1)).alloc (.cells rb t2)) w1) (a3 : w1.heap.size = w.heap.size + 4)
    (b1 : SIn w3 (w.heap.size + 3) L.length s) (b2 : Kp (fun k => k = w.heap.size + 3) (w1.alloc (.cells #[.slice (some ⟨w.heap.size + 3, 0, none⟩) ((L.length + 63) / 64) ((L.length + 63) / 64), .int .i64 L.length] t3)) w3)
    (c1 : IOwn w4 w3.heap.size v E) (c2 : Below w3.heap.size w3 w4) :
    CS (comeP w.heap.size cc w4.heap.size ca) L ((w4.alloc (.cells #[v] t4)).alloc (.cells #[(comeP w.heap.size cc w4.heap.size ca).fv] t5)) v s E ∧ Below w.heap.size w ((w4.alloc (.cells #[v] t4)).alloc (.cells #[(comeP w.heap.size cc w4.heap.size ca).fv] t5)) ∧ At ((w4.alloc (.cells #[v] t4)).alloc (.cells #[(comeP w.heap.size cc w4.heap.size ca).fv] t5)) (w.heap.size + 1) rb := by
  have s3 := b2.size
  rw [World.size_alloc, a3] at s3
  have s4 := c2.size
  generalize hsb : (Obj.cells #[.slice (some ⟨w.heap.size + 3, 0, none⟩) ((L.length + 63) / 64) ((L.length + 63) / 64), .int .i64 L.length] t3) = sb at *
  have B1 : Below (w.heap.size + 2) w1 w3 := ((Below.refl _ w1).alloc (by omega) sb).trans (b2.below (by rw [World.size_alloc]; omega) (fun k q => by omega))
  have B2 : Below (w.heap.size + 2) w1 w4 := B1.trans (c2.mono (by omega))
  have B3 : Below (w.heap.size + 2) ((w.alloc (.cells #[.slice ca L.length cc] t1)).alloc (.cells rb t2)) w4 := a0.trans B2
  have B5 : Below w4.heap.size w4 ((w4.alloc (.cells #[v] t4)).alloc (.cells #[(comeP w.heap.size cc w4.heap.size ca).fv] t5)) := ((Below.refl _ w4).alloc (Nat.le_refl _) _).alloc (by rw [World.size_alloc]; omega) _
  have B6 := B3.trans (B5.mono (by omega))
  have ic := at_below ((At.new w #[.slice ca L.length cc] t1).alloc (.cells rb t2)) B6 (by omega)
  have ir := at_below (At.next w (.cells #[.slice ca L.length cc] t1) rb t2) B6 (by omega)
  have isn : At (w1.alloc sb) (w.heap.size + 4) #[.slice (some ⟨w.heap.size + 3, 0, none⟩) ((L.length + 63) / 64) ((L.length + 63) / 64), .int .i64 L.length] := by
    rw [← hsb]; exact At.at_ w1 _ _ a3
  have is3 := at_below (at_below (at_kp isn b2 (by omega)) c2 (by omega)) B5 (by omega)
  have row : IOwn ((w4.alloc (.cells #[v] t4)).alloc (.cells #[(comeP w.heap.size cc w4.heap.size ca).fv] t5)) (w.heap.size + 2) v E := by
    have := own_below c1 B5
    refine ⟨this.1, ?_⟩
    rcases this.2 with h2 | ⟨g, cap, cur, hv, hbg, rest⟩
    · exact .inl h2
    · exact .inr ⟨g, cap, cur, hv, by omega, rest⟩
  have BW : Below w.heap.size w ((w4.alloc (.cells #[v] t4)).alloc (.cells #[(comeP w.heap.size cc w4.heap.size ca).fv] t5)) := Below.trans (((Below.refl _ w).alloc (Nat.le_refl _) _).alloc (by rw [World.size_alloc]; omega) _) (B6.mono (by omega))
  refine ⟨⟨(At.new w4 #[v] t4).alloc _, row, is3, ic, At.next w4 _ _ _, (b1.below c2 (by omega)).below B5 (by omega), (hL.below BW).mono (by simp [comeP]), ?_, ?_, ?_⟩, BW, ir⟩
  · simp only [comeP]
    refine ⟨?_, ?_, ?_, ?_, ?_, ?_, ?_⟩ <;> omega
  · intro g r
    have h1 := World.ownsRow.lt c1 g r
    simp only [comeP]
    refine ⟨?_, ?_, ?_, ?_, ?_⟩ <;> omega
  · exact ⟨by simp only [comeP]; omega, by simp only [comeP]; omega, by show w.heap.size + 2 ≤ _; have := B5.size; omega⟩
def OI (p : CP) (L : List Ins) (E : List Int) (out : Int) (w wr : World) : Prop := Hid (∃ v s W, CS p L wr v s W ∧ Ot L E out s W ∧ Below w.heap.size w wr ∧ At wr (w.heap.size + 1) #[.slice none 0 0, .int .i64 0])
set_option maxRecDepth 100000 in
set_option maxHeartbeats 4000000 in
theorem comeTo_any (L : List Ins) (E : List Int) (cc ec : Nat) (ca ea : Option Addr) (out : Int) (w : World) (hL : LIn w.heap.size w ca L) (hE : NIn w.heap.size w ea E) (hnil : NilOk ea E.length ec) (hn : L.length < 2000000) (he : E.length ≤ 4000000) :
    Calls Try.prog 30 #[.slice ca L.length cc, .slice ea E.length ec, .int .i64 out] w fun e w' => ∃ X s, e = .returned (sv X L.length) ∧ SIn w' X L.length s ∧ w.heap.size ≤ X ∧ Below w.heap.size w w' ∧ ∀ q, q < L.length → (s q = true ↔ Rch L E out q ∨ (q : Int) = out) := by
  have hN := newSet_any L.length ((w.alloc (.cells #[.slice ca L.length cc] 22)).alloc (.cells #[.slice none 0 0, .int .i64 0] 52)) hn
  simp only [World.size_alloc, Nat.add_assoc] at hN
  have hA := fun W (q : SIn W (w.heap.size + 3) L.length (fun _ => false)) => add_any (w.heap.size + 3) L.length (fun _ => false) out W q hn
  have hCl := fun W (q : Below w.heap.size w W) => clone_any ea ec E W ((hE.below q).mono q.size) hnil he
  have hmf : ∀ (fn : Fn) (first cap : Array Value) (w : World), (Instr.makeFunc fn first cap).run Try.prog w = .ok (.func fn first cap) w := fun _ _ _ _ => rfl
  unfold sv at *
  replace hN := Hid.mk hN
  replace hA := Hid.mk hA
  replace hCl := Hid.mk hCl
  replace hL := Hid.mk hL
  replace hE := Hid.mk hE
  replace hnil := Hid.mk hnil
  go_enter Try.func30, Try.ntmps30
  go_wp2_with (first | (go_at_call 32; refine hN.out.mono ?_; rintro x w1 ⟨rfl, a1, a2, a3⟩; replace a1 := Hid.mk a1; replace a2 := Hid.mk a2) | (go_at_call 33; refine (hA.out _ (a1.out.below ((Below.refl _ w1).alloc (Nat.le_refl _) _) (by omega))).mono ?_; rintro x w3 ⟨rfl, b1, b2⟩; have b3 : Hid (Below w.heap.size w w3) := Hid.mk (Below.trans (((Below.refl _ w).alloc (Nat.le_refl _) _).alloc (by simp) _) ((a2.out.mono (by omega)).trans (Below.trans ((Below.refl _ w1).alloc (by omega) _) (b2.below (by simp; omega) (fun k q => by omega))))); replace b1 := Hid.mk b1; replace b2 := Hid.mk b2) | (go_at_call 41; refine (hCl.out _ b3.out).mono ?_; rintro x w4 ⟨v, rfl, c1, c2⟩; obtain ⟨va, vc, rfl⟩ := own_slice c1; replace c1 := Hid.mk c1; replace c2 := Hid.mk c2))
  obtain ⟨d1, d2, d3⟩ := come_start (t1 := 22) (t2 := 52) (t3 := 52) (t4 := 23) (t5 := 69) (rb := #[.slice none 0 0, .int .i64 0]) hL.out a2.out a3 b1.out b2.out c1.out c2.out
  have h0 : OI (comeP w.heap.size cc w4.heap.size ca) L E out w ((w4.alloc (.cells #[.slice va E.length vc] 23)).alloc (.cells #[(comeP w.heap.size cc w4.heap.size ca).fv] 69)) := Hid.mk ⟨_, _, E, d1, Ot.start L E out, d2, d3⟩
  clear d1 d2 d3 b3
  simp only [comeP, CP.fv] at h0
  generalize w4.heap.size = bw at *
  go_loopw [10] (fun _ wr => OI (comeP w.heap.size cc bw ca) L E out w wr) (fun _ wr => 2 * (L.length - cnt L.length (setOf wr (w.heap.size + 3))) + lenAt wr bw)
  case atStart => exact h0
  case round =>
    clear h0
    obtain ⟨v1, s1, W, hC, hO, hB, hR⟩ := hrel.out
    have hm := cnt_set hC.st
    obtain ⟨z1, z2, z3, z4, z5⟩ := hC.boxes
    rcases List.eq_nil_or_concat W with rfl | ⟨W0, y, rfl⟩
    · obtain ⟨a0, cap, rfl⟩ := hC.nil
      simp only [comeP, CP.fv] at z1 z2 z3 z4 z5
      have hS := Hid.mk hC.st
      have r0 : wr.cell? ⟨w.heap.size + 1, 0, none⟩ = some (.slice none 0 0) := hR.2.1 0
      have r1 : wr.cell? ⟨w.heap.size + 1, 1, none⟩ = some (.int .i64 0) := hR.2.1 1
      have r2 := hR.2.2
      have r3 := hR.1
      have hstop := Hid.mk hO.stop
      replace hC := Hid.mk hC
      replace hO := Hid.mk hO
      replace hB := Hid.mk hB
      replace hR := Hid.mk hR
      clear hrel
      go_wp2_with fail
      have hF : ∀ a b, SIn ((wr.setCell ⟨w.heap.size + 1, 0, none⟩ a).setCell ⟨w.heap.size + 1, 1, none⟩ b) (w.heap.size + 3) L.length s1 ∧ Below w.heap.size w ((wr.setCell ⟨w.heap.size + 1, 0, none⟩ a).setCell ⟨w.heap.size + 1, 1, none⟩ b) := fun a b =>
        ⟨sin_kp (sin_kp hS.out (Kp.set (S := fun k => k = w.heap.size + 1) wr _ a rfl) (by simp)) (Kp.set (S := fun k => k = w.heap.size + 1) _ _ b rfl) (by simp), (hB.out.setCell (by simp) a).setCell (by simp) b⟩
      simp [bodyPost, results, Try.results30, go_sem, r0, r1]
      exact ⟨s1, (hF _ _).1, (hF _ _).2, hstop.out⟩
    · rw [List.concat_eq_append] at hC hO
      obtain ⟨g, cap, rfl, p1, p2, p3, p4, p5, p6⟩ := hC.pop
      have hlw : lenAt wr bw = W0.length + 1 := by
        have : wr.cell? ⟨bw, 0, none⟩ = _ := z1
        simp [lenAt, this]
      simp only [comeP, CP.fv] at z1 z5
      have hq := walk_any (comeP w.heap.size cc bw ca) L out hn (L.length - cnt L.length s1) s1 W0 _ y 0 _ p5 hO.out (Nat.le_refl _) (by omega) (by have := hO.len; simp at this; omega)
      simp only [comeP] at hq
      have z5' : (wr.setCell ⟨bw, 0, none⟩ (.slice (some ⟨g, 0, none⟩) W0.length cap)).cell? ⟨bw + 1, 0, none⟩ = _ := p5.boxes.2.2.2.2
      simp only [comeP, CP.fv] at z5'
      have hfr : wr.frozen? ⟨bw, 0, none⟩ = false := hC.iw.2.2 0
      have hWl : W0.length < 8000000 := by have := hO.len; simp at this; omega
      have hp1 : (W0.length : Int) + 1 ≤ cap := by omega
      have hc2 : ¬ (cap : Int) < W0.length := by omega
      have hstep := fun s' D (q : Wf L out 0 s1 y s' D) => hO.step q
      replace hq := Hid.mk hq
      replace hC := Hid.mk hC
      replace hO := Hid.mk hO
      replace hB := Hid.mk hB
      replace hR := Hid.mk hR
      replace p5 := Hid.mk p5
      replace p6 := Hid.mk p6
      replace hstep := Hid.mk hstep
      clear hrel z2 z3 z4 z5
      go_wp2_with (go_at_call 42; refine hq.out.mono ?_; rintro x w6 ⟨rfl, v6, s6, D6, k1, k2, k3⟩)
      have hlo : w.heap.size + 2 ≤ bw := hC.out.lo.2.1
      have m1 : cnt L.length (setOf w6 (w.heap.size + 3)) = cnt L.length s6 := cnt_set k1.st
      have m2 : cnt L.length (setOf wr (w.heap.size + 3)) = cnt L.length s1 := hm
      have m3 := k2.ct
      have m4 := cnt_le L.length s6
      have m5 : lenAt w6 bw = W0.length + D6.length := by
        obtain ⟨va6, vc6, e6⟩ := own_slice k1.row
        have : w6.cell? ⟨bw, 0, none⟩ = some v6 := k1.boxes.1
        rw [e6] at this
        simp [lenAt, this]
      refine ⟨Hid.mk ⟨v6, s6, W0 ++ D6, k1, hstep.out s6 D6 k2, (hB.out.trans (p6.out.mono (by simp [comeP]))).trans (k3.mono (by omega)), at_below (hR.out.set_other _ (by omega)) k3 (by omega)⟩, ?_⟩
      rw [m1, m2, m5, hlw]
      simp at m3
      omega
end F
end Go.Proofs.Ytoppcikacakjcaa
