/-
  Stage 8, flow: the walk of comeTo.
-/
import Derived.Test.YtjmknpkmbghgdaaFWalk
namespace Go.Proofs.Ytjmknpkmbghgdaa
namespace F
open Go.RowKit
open T

theorem CS.ins {p : CP} {L : List Ins} {w : World} {v : Value} {s : Nat → Bool} {W : List Int} (h : CS p L w v s W) {b off q : Nat} (hq : q < L.length) (e : p.ca = some ⟨b, off, none⟩) :
    b < w.heap.size ∧ w.cell? ⟨b, off + q * 5, none⟩ = some (.int .u8 L[q].op) ∧ w.cell? ⟨b, off + q * 5 + 1 + 1 + 1 + 1, none⟩ = some (.int .i64 L[q].m) := by
  obtain ⟨b', off', e', h1, h2, h3⟩ := h.co q hq
  rw [e] at e'
  cases e'
  exact ⟨h2, h3.1, h3.2.2.2.2⟩
theorem CS.boxes {p : CP} {L : List Ins} {w : World} {v : Value} {s : Nat → Bool} {W : List Int} (h : CS p L w v s W) :
    w.cell? ⟨p.bw, 0, none⟩ = some v ∧ w.cell? ⟨p.bs, 0, none⟩ = some (.slice (some ⟨p.X, 0, none⟩) ((L.length + 63) / 64) ((L.length + 63) / 64)) ∧ w.cell? ⟨p.bs, 1, none⟩ = some (.int .i64 L.length) ∧ w.cell? ⟨p.bc, 0, none⟩ = some (.slice p.ca L.length p.cc) ∧ w.cell? ⟨p.bk, 0, none⟩ = some p.fv :=
  ⟨h.iw.2.1 0, h.is_.2.1 0, h.is_.2.1 1, h.ic.2.1 0, h.ik.2.1 0⟩
theorem way_cases (op : Int) : wayN op = 4 ∨ wayN op = 3 ∨ wayN op = 1 ∨ wayN op = 2 ∨ wayN op = 0 := by
  unfold wayN
  split
  · simp
  · split
    · simp
    · split
      · simp
      · split <;> simp
theorem fol_jump {L : List Ins} {q r : Nat} (hq : q < L.length) (hw : wayN L[q].op = 1) : folB L q r = (decide (r < L.length) && decide ((r : Int) = L[q].m)) := by
  simp [folB, hq, wyF, hw]
theorem fol_branch {L : List Ins} {q r : Nat} (hq : q < L.length) (hw : wayN L[q].op = 2) : folB L q r = (decide (r < L.length) && (decide ((r : Int) = L[q].m) || decide (r = q + 1))) := by
  simp [folB, hq, wyF, hw]
theorem fol_next {L : List Ins} {q r : Nat} (hq : q < L.length) (hw : wayN L[q].op = 0) : folB L q r = (decide (r < L.length) && decide (r = q + 1)) := by
  simp [folB, hq, wyF, hw]
theorem Wk.jump {L : List Ins} {out : Int} {s s1 : Nat → Bool} {pc : Int} {p : Nat} {D : List Int} (h : Wk L out s pc s1 D p) (hp : p < L.length) (hs : s1 p = false) (ho : thB L.length out = true → s out.toNat = true) (hw : wayN (L[p]).op = 1) : Wk L out s pc (adS s1 p) D L[p].m := by
  have := h.on (s3 := adS s1 p) (D' := []) (tt := L[p].m) hp hs ho (fun _ _ e => e) (fun r e => .inl (by rw [fol_jump hp hw] at e; simpa using (by simp at e; exact e.2))) (fun e => by
    obtain ⟨n, hn, hl⟩ := thB_elim e
    rw [fol_jump hp hw, hn]
    simp [hl]) (fun p' q h1 h2 _ => by rw [h1] at h2; cases h2) (fun R _ _ => ⟨fun _ _ e => .inl e, fun d hd => by simp at hd⟩) (by simp)
  simpa using this
theorem Wk.next {L : List Ins} {out : Int} {s s1 : Nat → Bool} {pc : Int} {p : Nat} {D : List Int} (h : Wk L out s pc s1 D p) (hp : p < L.length) (hs : s1 p = false) (ho : thB L.length out = true → s out.toNat = true) (hw : wayN (L[p]).op = 0) : Wk L out s pc (adS s1 p) D ((p + 1 : Nat) : Int) := by
  have := h.on (s3 := adS s1 p) (D' := []) (tt := ((p + 1 : Nat) : Int)) hp hs ho (fun _ _ e => e) (fun r e => .inl (by rw [fol_next hp hw] at e; simp at e; omega)) (fun e => by
    rw [fol_next hp hw]
    rw [thB_nat] at e
    simpa using e) (fun p' q h1 h2 _ => by rw [h1] at h2; cases h2) (fun R _ _ => ⟨fun _ _ e => .inl e, fun d hd => by simp at hd⟩) (by simp)
  simpa using this
theorem Wk.branch {L : List Ins} {out : Int} {s s1 s3 : Nat → Bool} {pc : Int} {p dp : Nat} {D D' : List Int} (h : Wk L out s pc s1 D p) (hp : p < L.length) (hs : s1 p = false) (ho : thB L.length out = true → s out.toNat = true) (hw : wayN (L[p]).op = 2) (f : Wf L out dp (adS s1 p) L[p].m s3 D') (hdp : dp ≤ 1) : Wk L out s pc s3 (D ++ D') ((p + 1 : Nat) : Int) := by
  refine h.on hp hs ho f.mono (fun r e => ?_) (fun e => ?_) (fun p' q h1 h2 h3 => f.clo p' q h1 h2 h3) (fun R r1 r2 => f.snd R r1 (fun e1 e2 => ?_)) (by have := f.ct; omega)
  · rw [fol_branch hp hw] at e
    simp at e
    rcases e.2 with r1 | r1
    · have := f.cov (by rw [← r1, thB_nat]; exact e.1)
      rw [← r1] at this
      simpa using .inr this
    · left; omega
  · rw [thB_nat] at e
    rw [fol_branch hp hw]
    simp
    omega
  · obtain ⟨n, hn, hl⟩ := thB_elim e1
    rw [hn] at e2 ⊢
    exact r1 p n r2 (by rw [fol_branch hp hw]; simp [hl, hn]) e2
def LI (p : CP) (L : List Ins) (out : Int) (w : World) (s : Nat → Bool) (W : List Int) (pc pc1 : Int) (wr : World) : Prop :=
  Hid (∃ v1 s1 D, CS p L wr v1 s1 (W ++ D) ∧ Wk L out s pc s1 D pc1 ∧ Below p.lo w wr)
set_option maxRecDepth 100000 in
set_option maxHeartbeats 4000000 in
theorem walk_any (p : CP) (L : List Ins) (out : Int) (hn : L.length < 2000000) : ∀ (k : Nat) (s : Nat → Bool) (W : List Int) (v : Value) (pc : Int) (dep : Nat) (w : World), CS p L w v s W → (thB L.length out = true → s out.toNat = true) → L.length - cnt L.length s ≤ k → dep ≤ 1000 → W.length + (L.length - cnt L.length s) < 7000000 →
    Calls Try.prog 47 #[.int .i64 pc, .int .i64 dep, .pointer (some ⟨p.bw, 0, none⟩), .pointer (some ⟨p.bs, 0, none⟩), .pointer (some ⟨p.bc, 0, none⟩), .pointer (some ⟨p.bk, 0, none⟩)] w
      fun e w' => e = .returned (.tuple #[]) ∧ ∃ v' s' D, CS p L w' v' s' (W ++ D) ∧ Wf L out (if dep = 1000 then 1 else 0) s pc s' D ∧ Below p.lo w w' := by
  intro k
  induction k using Nat.strongRecOn with
  | _ k IH =>
  intro s W v pc dep w hC ho hk hd hW
  by_cases e0 : dep = 1000
  · subst e0
    obtain ⟨z1, z2, z3, z4, z5⟩ := hC.boxes
    have hbl := hC.iw.1
    have fr := hC.iw.2.2
    have hp := fun w2 g cap y => hC.push (w1 := w.alloc (.cells #[.int .i64 pc] 3)) (w2 := w2) (g := g) (cap := cap) (y := y) (by (repeat (first | assumption | with_reducible exact Below.refl _ _ | with_reducible refine Below.alloc ?_ (by simp <;> omega) _ | with_reducible refine Below.setCell ?_ (by simp <;> omega) _ | with_reducible refine Below.drew ?_)))
    have hlo := hC.lo.2.2
    have hrow : IOwn (w.alloc (.cells #[.int .i64 pc] 3)) p.lo v W := own_below hC.row (by (repeat (first | assumption | with_reducible exact Below.refl _ _ | with_reducible refine Below.alloc ?_ (by simp <;> omega) _ | with_reducible refine Below.setCell ?_ (by simp <;> omega) _ | with_reducible refine Below.drew ?_)))
    have hnb := hC.nv
    have hWl : W.length ≤ 8000000 := by omega
    replace hC := Hid.mk hC
    replace hp := Hid.mk hp
    replace hrow := Hid.mk hrow
    replace hnb := Hid.mk hnb
    clear IH
    go_enter Try.func47, Try.ntmps47
    go_wp2_with (at_builtin; refine wpList_append_int rfl (.tmp 10) (.tmp 12) rfl p.lo v W pc rfl hrow.out w.heap.size rfl (At.new w _ _) hWl (by simp; omega) ?_)
    intro g cap w2 g1 g2 g3 g4
    have hbw : w2.cell? ⟨p.bw, 0, none⟩ = some v := by
      rw [cell_of_block (g2.block p.bw (by simp; omega) (fun r => (hnb.out _ r.symm).1 rfl)), World.cell?_alloc_past _ _ _ hbl]
      exact z1
    have hbf : w2.frozen? ⟨p.bw, 0, none⟩ = false := by
      rw [frozen_of_block (g2.block p.bw (by simp; omega) (fun r => (hnb.out _ r.symm).1 rfl))]
      have := ((hC.out.below (w1 := w.alloc (.cells #[.int .i64 pc] 3)) (by (repeat (first | assumption | with_reducible exact Below.refl _ _ | with_reducible refine Below.alloc ?_ (by simp <;> omega) _ | with_reducible refine Below.setCell ?_ (by simp <;> omega) _ | with_reducible refine Below.drew ?_)))).iw).2.2 0
      exact this
    have hp2 := Hid.mk (hp.out w2 g cap pc g1 g2 (by simpa using g3))
    replace g1 := Hid.mk g1
    replace g2 := Hid.mk g2
    go_wp2_with fail
    refine bodyPost_ret (results_none (by kernel_rfl) _ _ _) rfl ?_
    exact ⟨rfl, _, s, [pc], hp2.out.1, Wf.deep L out s pc, hp2.out.2⟩
  · have hde : ((dep : Int) == 1000) = false := by simpa using (by omega : ¬ (dep : Int) = 1000)
    rw [if_neg e0]
    have h0 : LI p L out w s W pc pc w := Hid.mk ⟨v, s, [], by simpa using hC, Wk.start L out s pc, Below.refl _ _⟩
    replace hC := Hid.mk hC
    replace IH := Hid.mk IH
    replace ho := Hid.mk ho
    go_enter Try.func47, Try.ntmps47
    go_wp2_with fail
    go_loopw [0] (fun x wr => ∃ pc1 : Int, x = .int .i64 pc1 ∧ LI p L out w s W pc pc1 wr) (fun _ wr => L.length - cnt L.length (setOf wr p.X))
    case atStart => exact ⟨pc, rfl, h0⟩
    case round =>
      obtain ⟨pc1, rfl, hI⟩ := hrel
      obtain ⟨v1, s1, D, hC1, hK, hB⟩ := hI.out
      have hm := cnt_set hC1.st
      obtain ⟨z1, z2, z3, z4, z5⟩ := hC1.boxes
      have hA := add_any p.X L.length s1 pc1 wr hC1.st hn
      have hT := fun w1 (q1 : SIn w1 p.X L.length (adS s1 pc1)) (q2 : Kp (fun k => k = p.X) wr w1) => hC1.sets q1 q2
      unfold sv at hA
      cases e1 : adB L.length s1 pc1 with
      | false =>
        rw [e1] at hA
        obtain ⟨s3, f1, f2⟩ := hK.stop e1 rfl 0
        generalize (L.length + 63) / 64 = nw at *
        replace hA := Hid.mk hA
        replace hT := Hid.mk hT
        replace hC1 := Hid.mk hC1
        replace hB := Hid.mk hB
        replace f1 := Hid.mk f1
        replace f2 := Hid.mk f2
        go_wp2_with (go_at_call 44; refine hA.out.mono ?_; rintro x w1 ⟨rfl, q1, q2⟩)
        go_end0
        have := hT.out w1 q1 q2
        exact ⟨rfl, v1, s3, D, this.1.same f2.out, f1.out, hB.out.trans this.2⟩
      | true =>
        rw [e1] at hA
        have e2 : thB L.length pc1 = true ∧ s1 pc1.toNat = false := by simpa [adB] using e1
        obtain ⟨q, rfl, hq⟩ := thB_elim e2.1
        have e3 : s1 q = false := by simpa using e2.2
        obtain ⟨b, off, hca, _⟩ := hC1.co q hq
        have hT2 : ∀ w1, SIn w1 p.X L.length (adS s1 q) → Kp (fun k => k = p.X) wr w1 → (w1.cell? ⟨p.bs, 0, none⟩ = some (.slice (some ⟨p.X, 0, none⟩) ((L.length + 63) / 64) ((L.length + 63) / 64)) ∧ w1.cell? ⟨p.bs, 1, none⟩ = some (.int .i64 L.length) ∧ w1.cell? ⟨p.bc, 0, none⟩ = some (.slice (some ⟨b, off, none⟩) L.length p.cc) ∧ w1.cell? ⟨p.bk, 0, none⟩ = some p.fv ∧ w1.cell? ⟨b, off + q * 5, none⟩ = some (.int .u8 L[q].op) ∧ w1.cell? ⟨b, off + q * 5 + 1 + 1 + 1 + 1, none⟩ = some (.int .i64 L[q].m)) ∧ CS p L w1 v1 (adS s1 q) (W ++ D) ∧ Below p.lo w w1 := fun w1 q1 q2 => by
          have t := hT w1 q1 q2
          obtain ⟨y1, y2, y3, y4, y5⟩ := t.1.boxes
          rw [hca] at y4
          exact ⟨⟨y2, y3, y4, y5, (t.1.ins hq hca).2.1, (t.1.ins hq hca).2.2⟩, t.1, hB.trans t.2⟩
        have hWo := wayOf_any L[q].op
        have hq1 : (q : Int) < L.length := by omega
        have hq2 : ¬ (L.length : Int) ≤ q := by omega
        have hcn := cnt_add L.length q s1 hq e3
        have hcl := cnt_le L.length (adS s1 q)
        clear hT e1 e2
        rcases way_cases L[q].op with hy | hy | hy | hy | hy
        · have f1 := hK.ends hq e3 ho.out hy 0
          rw [hy] at hWo
          generalize L[q].op = op at *
          generalize L[q].m = im at *
          generalize (L.length + 63) / 64 = nw at *
          replace hA := Hid.mk hA
          replace hT2 := Hid.mk hT2
          replace hC1 := Hid.mk hC1
          replace hB := Hid.mk hB
          replace f1 := Hid.mk f1
          replace hWo := Hid.mk hWo
          replace hK := Hid.mk hK
          go_wp2_with (first | (go_at_call 44; refine hA.out.mono ?_; rintro x w1 ⟨rfl, q1, q2⟩; obtain ⟨⟨y1, y2, y3, y4, y5, y6⟩, y7, y8⟩ := hT2.out w1 q1 q2; replace y7 := Hid.mk y7; replace y8 := Hid.mk y8; replace q1 := Hid.mk q1; replace q2 := Hid.mk q2) | (go_at_call 35; refine (hWo.out _).mono ?_; rintro x w2 ⟨rfl, rfl⟩))
          refine bodyPost_ret (results_none (by kernel_rfl) _ _ _) rfl ?_
          exact ⟨rfl, v1, _, D, y7.out, f1.out, y8.out⟩
        · have f1 := hK.any hq e3 ho.out hy 0
          rw [hy] at hWo
          have hFl := fun w1 (r : SIn w1 p.X L.length (adS s1 q)) => fill_any p.X L.length (adS s1 q) w1 r hn
          unfold sv at hFl
          generalize L[q].op = op at *
          generalize L[q].m = im at *
          generalize (L.length + 63) / 64 = nw at *
          replace hA := Hid.mk hA
          replace hT2 := Hid.mk hT2
          replace hC1 := Hid.mk hC1
          replace hB := Hid.mk hB
          replace hWo := Hid.mk hWo
          replace hK := Hid.mk hK
          replace f1 := Hid.mk f1
          replace hFl := Hid.mk hFl
          go_wp2_with (first | (go_at_call 44; refine hA.out.mono ?_; rintro x w1 ⟨rfl, q1, q2⟩; obtain ⟨⟨y1, y2, y3, y4, y5, y6⟩, y7, y8⟩ := hT2.out w1 q1 q2; have y9 := cnt_set y7.st; replace y7 := Hid.mk y7; replace y8 := Hid.mk y8; replace q1 := Hid.mk q1; replace q2 := Hid.mk q2) | (go_at_call 35; refine (hWo.out _).mono ?_; rintro x w2 ⟨rfl, rfl⟩) | (go_at_call 48; refine (hFl.out _ q1.out).mono ?_; rintro x w2 ⟨rfl, r1, r2⟩))
          refine bodyPost_ret (results_none (by kernel_rfl) _ _ _) rfl ?_
          have r3 := y7.out.sets r1 r2
          exact ⟨rfl, v1, _, D, r3.1, f1.out, y8.out.trans r3.2⟩
        · have f1 := hK.jump hq e3 ho.out hy
          rw [hy] at hWo
          generalize L[q].op = op at *
          generalize L[q].m = im at *
          generalize (L.length + 63) / 64 = nw at *
          replace hA := Hid.mk hA
          replace hT2 := Hid.mk hT2
          replace hC1 := Hid.mk hC1
          replace hB := Hid.mk hB
          replace hWo := Hid.mk hWo
          replace hK := Hid.mk hK
          replace f1 := Hid.mk f1
          go_wp2_with (first | (go_at_call 44; refine hA.out.mono ?_; rintro x w1 ⟨rfl, q1, q2⟩; obtain ⟨⟨y1, y2, y3, y4, y5, y6⟩, y7, y8⟩ := hT2.out w1 q1 q2; have y9 := cnt_set y7.st; replace y7 := Hid.mk y7; replace y8 := Hid.mk y8; replace q1 := Hid.mk q1; replace q2 := Hid.mk q2) | (go_at_call 35; refine (hWo.out _).mono ?_; rintro x w2 ⟨rfl, rfl⟩))
          go_roundw
          case rel => exact ⟨im, rfl, Hid.mk ⟨v1, _, D, y7.out, f1.out, y8.out⟩⟩
          case measure => omega
        · have f1 := fun s3 dp D' (r1 : Wf L out dp (adS s1 q) L[q].m s3 D') r2 => hK.branch hq e3 ho.out hy r1 r2
          rw [hy] at hWo
          have hR := fun w1 (r : CS p L w1 v1 (adS s1 q) (W ++ D)) => IH.out (k - 1) (by have := cnt_mono L.length hK.mono; omega) (adS s1 q) (W ++ D) v1 L[q].m (dep + 1) w1 r (fun e => by
            obtain ⟨n, rfl, hl⟩ := thB_elim e
            have := hK.mono n hl (by have := ho.out e; simpa using this)
            simp [adS, this]) (by have := cnt_mono L.length hK.mono; omega) (by omega) (by have := hK.ct; rw [List.length_append]; omega)
          have hd1 : IntKind.i64.wrap ((dep : Int) + 1) = ((dep + 1 : Nat) : Int) := by rw [IntKind.wrap_i64]; omega
          unfold CP.fv at hT2
          generalize L[q].op = op at *
          generalize L[q].m = im at *
          generalize (L.length + 63) / 64 = nw at *
          replace hA := Hid.mk hA
          replace hT2 := Hid.mk hT2
          replace hC1 := Hid.mk hC1
          replace hB := Hid.mk hB
          replace hWo := Hid.mk hWo
          replace hK := Hid.mk hK
          replace f1 := Hid.mk f1
          replace hR := Hid.mk hR
          go_wp2_with (first | (go_at_call 44; refine hA.out.mono ?_; rintro x w1 ⟨rfl, q1, q2⟩; obtain ⟨⟨y1, y2, y3, y4, y5, y6⟩, y7, y8⟩ := hT2.out w1 q1 q2; have y9 := cnt_set y7.st; replace y7 := Hid.mk y7; replace y8 := Hid.mk y8; replace q1 := Hid.mk q1; replace q2 := Hid.mk q2) | (go_at_call 35; refine (hWo.out _).mono ?_; rintro x w2 ⟨rfl, rfl⟩))
          go_region_with (go_at_call 47; refine (hR.out _ (y7.out.below (by (repeat (first | assumption | with_reducible exact Below.refl _ _ | with_reducible refine Below.alloc ?_ (by simp <;> omega) _ | with_reducible refine Below.setCell ?_ (by simp <;> omega) _ | with_reducible refine Below.drew ?_))))).mono ?_; rintro x w3 ⟨rfl, v3, s3, D3, r1, r2, r3⟩; replace r1 := Hid.mk r1; replace r2 := Hid.mk r2; have r4 : Hid (Below p.lo w2 w3) := Hid.mk (Below.trans (by (repeat (first | assumption | with_reducible exact Below.refl _ _ | with_reducible refine Below.alloc ?_ (by simp <;> omega) _ | with_reducible refine Below.setCell ?_ (by simp <;> omega) _ | with_reducible refine Below.drew ?_))) r3); clear r3)
          all_goals
            go_wp2_with fail
            go_roundw
            case rel => exact ⟨((q + 1 : Nat) : Int), by simp, Hid.mk ⟨v3, _, D ++ D3, by have := r1.out; rwa [List.append_assoc] at this, f1.out s3 _ D3 r2.out (by split <;> omega), y8.out.trans r4.out⟩⟩
            case measure =>
              have a1 := cnt_set r1.out.st
              have a2 := cnt_mono L.length r2.out.mono
              have a3 := cnt_le L.length s3
              omega
        · have f1 := hK.next hq e3 ho.out hy
          rw [hy] at hWo
          generalize L[q].op = op at *
          generalize L[q].m = im at *
          generalize (L.length + 63) / 64 = nw at *
          replace hA := Hid.mk hA
          replace hT2 := Hid.mk hT2
          replace hC1 := Hid.mk hC1
          replace hB := Hid.mk hB
          replace hWo := Hid.mk hWo
          replace hK := Hid.mk hK
          replace f1 := Hid.mk f1
          go_wp2_with (first | (go_at_call 44; refine hA.out.mono ?_; rintro x w1 ⟨rfl, q1, q2⟩; obtain ⟨⟨y1, y2, y3, y4, y5, y6⟩, y7, y8⟩ := hT2.out w1 q1 q2; have y9 := cnt_set y7.st; replace y7 := Hid.mk y7; replace y8 := Hid.mk y8; replace q1 := Hid.mk q1; replace q2 := Hid.mk q2) | (go_at_call 35; refine (hWo.out _).mono ?_; rintro x w2 ⟨rfl, rfl⟩))
          go_roundw
          case rel => exact ⟨((q + 1 : Nat) : Int), by simp, Hid.mk ⟨v1, _, D, y7.out, f1.out, y8.out⟩⟩
          case measure => omega
end F
end Go.Proofs.Ytjmknpkmbghgdaa
