import Derived.Test.YtoppcikacakjcaaP14
/-
  Stage 8, flow: where rows begin.
-/
namespace Go.Proofs.Ytoppcikacakjcaa
namespace F
open Go.RowKit
open T

def fsE (E : List Int) (j : Nat) : Nat → Bool := (E.take j).foldl adS (adS (fun _ => false) 0)
theorem fsE_step (E : List Int) (j : Nat) (hj : j < E.length) : fsE E (j + 1) = adS (fsE E j) E[j] := by
  unfold fsE
  rw [List.take_add_one, List.getElem?_eq_getElem hj, Option.toList_some, List.foldl_append]
  rfl
def fs1 (i : Ins) (s : Nat → Bool) : Nat → Bool := if wayN i.op = 3 then (fun _ => true) else s
def fs2 (i : Ins) (s : Nat → Bool) : Nat → Bool := if tgtB (wayN i.op) = true then adS (fs1 i s) i.m else fs1 i s
def fs3 (k : Nat) (i : Ins) (s : Nat → Bool) : Nat → Bool := if wayN i.op = 0 then fs2 i s else adS (fs2 i s) ((k : Int) + 1)
def fsC (L : List Ins) (s : Nat → Bool) : Nat → (Nat → Bool)
  | 0 => s
  | j + 1 => match L[j]? with
    | none => fsC L s j
    | some i => fs3 j i (fsC L s j)
theorem fsC_step (L : List Ins) (s : Nat → Bool) (j : Nat) (hj : j < L.length) : fsC L s (j + 1) = fs3 j L[j] (fsC L s j) := by
  rw [fsC, List.getElem?_eq_getElem hj]
/-- Where rows begin. -/
def firF (L : List Ins) (E : List Int) : Nat → Bool := fsC L (fsE E E.length) L.length
def FI (w : World) (n : Nat) (s : Nat → Bool) (wr : World) : Prop := Hid (HS (w.heap.size + 1) (w.heap.size + 2) (w.heap.size + 3) n (w.alloc (.cells #[.slice none 0 0, .int .i64 0] 52)) wr s)
set_option maxRecDepth 100000 in
set_option maxHeartbeats 4000000 in
theorem firstsOf_any (L : List Ins) (E : List Int) (ca ea : Option Addr) (cc ec : Nat) (w : World) (hL : LIn w.heap.size w ca L) (hE : NIn w.heap.size w ea E) (hn : L.length < 2000000) (he : E.length ≤ 4000000) :
    Calls Try.prog 21 #[.slice ca L.length cc, .slice ea E.length ec] w fun e w' => ∃ X, e = .returned (sv X L.length) ∧ SIn w' X L.length (firF L E) ∧ w.heap.size ≤ X ∧ Below w.heap.size w w' := by
  have hN := newSet_any L.length (w.alloc (.cells #[.slice none 0 0, .int .i64 0] 52)) hn
  simp only [World.size_alloc, Nat.add_assoc] at hN
  have hA := fun s pc W (h : SIn W (w.heap.size + 2) L.length s) => add_any (w.heap.size + 2) L.length s pc W h hn
  have hF := fun s W (h : SIn W (w.heap.size + 2) L.length s) => fill_any (w.heap.size + 2) L.length s W h hn
  have hT := hasTarget_any
  have hW := wayOf_any
  have h0 : ∀ (w1 w2 : World) (t : TypeId), SIn w1 (w.heap.size + 2) L.length (fun _ => false) → Below (w.heap.size + 1) (w.alloc (.cells #[.slice none 0 0, .int .i64 0] 52)) w1 → w1.heap.size = w.heap.size + 3 → SIn w2 (w.heap.size + 2) L.length (adS (fun _ => false) 0) → Kp (fun k => k = w.heap.size + 2) (w1.alloc (.cells #[.slice (some ⟨w.heap.size + 2, 0, none⟩) ((L.length + 63) / 64) ((L.length + 63) / 64), .int .i64 L.length] t)) w2 → FI w L.length (fsE E 0) w2 := fun w1 w2 t a1 a2 a3 b1 b2 => by
    have q : HS (w.heap.size + 1) (w.heap.size + 2) (w.heap.size + 3) L.length (w.alloc (.cells #[.slice none 0 0, .int .i64 0] 52)) (w1.alloc (.cells #[.slice (some ⟨w.heap.size + 2, 0, none⟩) ((L.length + 63) / 64) ((L.length + 63) / 64), .int .i64 L.length] t)) (fun _ => false) :=
      ⟨a1.below ((Below.refl _ w1).alloc (Nat.le_refl _) _) a1.lt, At.at_ w1 _ _ a3, a2.alloc (by omega) _, by omega, by omega, by simp; omega⟩
    exact Hid.mk (q.sets b1 b2)
  unfold sv at *
  have hB0 : Below w.heap.size w (w.alloc (.cells #[.slice none 0 0, .int .i64 0] 52)) := by (repeat (first | assumption | with_reducible exact Below.refl _ _ | with_reducible refine Below.alloc ?_ (by simp <;> omega) _ | with_reducible refine Below.setCell ?_ (by simp <;> omega) _ | with_reducible refine Below.drew ?_))
  replace hN := Hid.mk hN
  replace hA := Hid.mk hA
  replace hF := Hid.mk hF
  replace hT := Hid.mk hT
  replace hW := Hid.mk hW
  replace hL := Hid.mk hL
  replace hE := Hid.mk hE
  replace h0 := Hid.mk h0
  replace hB0 := Hid.mk hB0
  go_enter Try.func21, Try.ntmps21
  go_wp2_with (first | (go_at_call 32; refine hN.out.mono ?_; rintro x w1 ⟨rfl, a1, a2, a3⟩; replace a1 := Hid.mk a1; replace a2 := Hid.mk a2) | (go_at_call 33; refine (hA.out _ _ _ (a1.out.below ((Below.refl _ w1).alloc (Nat.le_refl _) _) a1.out.lt)).mono ?_; rintro x w2 ⟨rfl, b1, b2⟩; replace b1 := Hid.mk b1; replace b2 := Hid.mk b2))
  have hst := h0.out w1 w2 52 a1.out a2.out a3 b1.out b2.out
  go_loopw [18] (fun x wr => ∃ j : Nat, x = .int .i64 j ∧ j ≤ E.length ∧ FI w L.length (fsE E j) wr) (fun x _ => E.length - (intOf x).toNat)
  case atStart => exact ⟨0, rfl, by omega, hst⟩
  case round =>
    clear hst a1 a2 a3 b1 b2 h0
    obtain ⟨j, rfl, hj, hI⟩ := hrel
    have hS := hI.out
    have z0 : wr.cell? ⟨w.heap.size + 3, 0, none⟩ = _ := hS.ib.2.1 0
    have z1 : wr.cell? ⟨w.heap.size + 3, 1, none⟩ = _ := hS.ib.2.1 1
    simp only [List.getElem?_toArray, List.getElem?_cons_zero, List.getElem?_cons_succ] at z0 z1
    by_cases hlt : j < E.length
    · obtain ⟨b, off, rfl, hb0, hb, hc⟩ := hE.out j hlt
      have hc1 := (hS.be.cell (p := ⟨b, off + j, none⟩) (Nat.lt_succ_of_lt hb0)).trans ((hB0.out.cell (p := ⟨b, off + j, none⟩) hb0).trans hc)
      have hst := Hid.mk (fsE_step E j hlt)
      have hi1 : (j : Int) < E.length := by omega
      replace hS := Hid.mk hS
      go_wp2_with (first | (go_at_call 33; refine (hA.out _ _ _ hS.out.st).mono ?_; rintro x w3 ⟨rfl, q1, q2⟩; have hS1 := Hid.mk (hS.out.sets q1 q2); replace q1 := Hid.mk q1; replace q2 := Hid.mk q2))
      go_roundw
      all_goals first | exact ⟨j + 1, by simp, by omega, by unfold FI; rw [hst.out]; exact hS1⟩ | (simp only [intOf]; omega)
    · have hi1 : ¬ (j : Int) < E.length := by omega
      have ej : j = E.length := by omega
      subst ej
      replace hS := Hid.mk hS
      go_wp2_with fail
      clear z0 z1 hj hlt
      rename World => wo
      go_loopw [28] (fun x wr => ∃ j : Nat, x = .int .i64 j ∧ j ≤ L.length ∧ FI w L.length (fsC L (fsE E E.length) j) wr) (fun x _ => L.length - (intOf x).toNat)
      case atStart => exact ⟨0, rfl, by omega, hI⟩
      case round =>
        clear hI hS
        obtain ⟨k, rfl, hk, hI⟩ := hrel
        have hS := hI.out
        have z0 : wr.cell? ⟨w.heap.size + 3, 0, none⟩ = _ := hS.ib.2.1 0
        have z1 : wr.cell? ⟨w.heap.size + 3, 1, none⟩ = _ := hS.ib.2.1 1
        simp only [List.getElem?_toArray, List.getElem?_cons_zero, List.getElem?_cons_succ] at z0 z1
        by_cases hlt : k < L.length
        · obtain ⟨b, off, rfl, hb0, hb, five⟩ := hL.out k hlt
          have hf5 := (five.below hB0.out hb0).below hS.be (Nat.lt_succ_of_lt hb0)
          obtain ⟨c0, c1, c2, c3, c4⟩ := hf5
          have hlw : b < wr.heap.size := Nat.lt_of_lt_of_le (Nat.lt_succ_of_lt hb0) hS.ne.2.2
          have hbl := hS.ib.1
          have hstp := fsC_step L (fsE E E.length) k hlt
          have hi1 : (k : Int) < L.length := by omega
          have hi2 : ¬ (L.length : Int) ≤ k := by omega
          have hQ : ∀ (W W' : World) (s s' : Nat → Bool) , (HS (w.heap.size + 1) (w.heap.size + 2) (w.heap.size + 3) L.length (w.alloc (.cells #[.slice none 0 0, .int .i64 0] 52)) W s ∧ At W wr.heap.size #[.int .u8 L[k].op, .int .i64 L[k].a, .int .i64 L[k].b, .int .i64 L[k].c, .int .i64 L[k].m]) → SIn W' (w.heap.size + 2) L.length s' → Kp (fun q => q = w.heap.size + 2) W W' → (HS (w.heap.size + 1) (w.heap.size + 2) (w.heap.size + 3) L.length (w.alloc (.cells #[.slice none 0 0, .int .i64 0] 52)) W' s' ∧ At W' wr.heap.size #[.int .u8 L[k].op, .int .i64 L[k].a, .int .i64 L[k].b, .int .i64 L[k].c, .int .i64 L[k].m]) := fun W W' s s' h1 h2 h3 =>
            ⟨h1.1.sets h2 h3, at_kp h1.2 h3 (by omega)⟩
          have hBx : ∀ (W : World) (s : Nat → Bool), (HS (w.heap.size + 1) (w.heap.size + 2) (w.heap.size + 3) L.length (w.alloc (.cells #[.slice none 0 0, .int .i64 0] 52)) W s ∧ At W wr.heap.size #[.int .u8 L[k].op, .int .i64 L[k].a, .int .i64 L[k].b, .int .i64 L[k].c, .int .i64 L[k].m]) → W.cell? ⟨w.heap.size + 3, 0, none⟩ = some (.slice (some ⟨w.heap.size + 2, 0, none⟩) ((L.length + 63) / 64) ((L.length + 63) / 64)) ∧ W.cell? ⟨w.heap.size + 3, 1, none⟩ = some (.int .i64 L.length) ∧ W.cell? ⟨wr.heap.size, 0, none⟩ = some (.int .u8 L[k].op) ∧ W.cell? ⟨wr.heap.size, 4, none⟩ = some (.int .i64 L[k].m) := fun W s h =>
            ⟨h.1.ib.2.1 0, h.1.ib.2.1 1, h.2.2.1 0, h.2.2.1 4⟩
          have hS0 : HS (w.heap.size + 1) (w.heap.size + 2) (w.heap.size + 3) L.length (w.alloc (.cells #[.slice none 0 0, .int .i64 0] 52)) (wr.alloc (.cells #[.int .u8 L[k].op, .int .i64 L[k].a, .int .i64 L[k].b, .int .i64 L[k].c, .int .i64 L[k].m] 49)) (fsC L (fsE E E.length) k) ∧ At (wr.alloc (.cells #[.int .u8 L[k].op, .int .i64 L[k].a, .int .i64 L[k].b, .int .i64 L[k].c, .int .i64 L[k].m] 49)) wr.heap.size #[.int .u8 L[k].op, .int .i64 L[k].a, .int .i64 L[k].b, .int .i64 L[k].c, .int .i64 L[k].m] :=
            ⟨hS.below ((Below.refl _ wr).alloc (Nat.le_refl _) _), At.new wr _ _⟩
          clear hS
          have hS := Hid.mk hS0
          clear hS0
          replace hQ := Hid.mk hQ
          replace hBx := Hid.mk hBx
          replace hL := Hid.mk hL.out
          generalize fsC L (fsE E E.length) k = s at *
          clear hI five
          rcases way_cases L[k].op with hy | hy | hy | hy | hy
          · have hres : fs3 k L[k] s = adS s ((k : Int) + 1) := by simp [fs3, fs2, fs1, hy, tgtB]
            rw [hres] at hstp
            replace hstp := Hid.mk hstp
            have etg : tgtB 4 = false := rfl
            clear hres
            generalize L[k].op = op at *
            generalize L[k].a = i1 at *
            generalize L[k].b = i2 at *
            generalize L[k].c = i3 at *
            generalize L[k].m = im at *
            go_wp2_with (first | (go_at_call 27; refine (hW.out _ _).mono ?_; rintro x w2 ⟨rfl, rfl⟩; rw [hy]) | (go_at_call 34; refine (hT.out _ _).mono ?_; rintro x w2 ⟨rfl, rfl⟩; (try rw [etg])) | (go_at_call 33; refine (hA.out _ _ _ hS.out.1.st).mono ?_; rintro x w3 ⟨rfl, q1, q2⟩; have hS1 := hQ.out _ _ _ _ hS.out q1 q2; clear q1 q2; obtain ⟨d1, d2, d3, d4⟩ := hBx.out _ _ hS1; replace hS1 := Hid.mk hS1))
            go_roundw
            all_goals first | exact ⟨k + 1, by simp, by omega, by unfold FI; rw [hstp.out]; exact Hid.mk hS1.out.1⟩ | (simp only [intOf]; omega)
          · have hres : fs3 k L[k] s = adS (fun _ => true) ((k : Int) + 1) := by simp [fs3, fs2, fs1, hy, tgtB]
            rw [hres] at hstp
            replace hstp := Hid.mk hstp
            have etg : tgtB 3 = false := rfl
            clear hres
            generalize L[k].op = op at *
            generalize L[k].a = i1 at *
            generalize L[k].b = i2 at *
            generalize L[k].c = i3 at *
            generalize L[k].m = im at *
            go_wp2_with (first | (go_at_call 27; refine (hW.out _ _).mono ?_; rintro x w2 ⟨rfl, rfl⟩; rw [hy]) | (go_at_call 34; refine (hT.out _ _).mono ?_; rintro x w2 ⟨rfl, rfl⟩; (try rw [etg])) | (go_at_call 33; refine (hA.out _ _ _ hS1.out.1.st).mono ?_; rintro x w4 ⟨rfl, q1, q2⟩; have hS2 := Hid.mk (hQ.out _ _ _ _ hS1.out q1 q2); clear q1 q2) | (go_at_call 35; refine (hF.out _ _ hS.out.1.st).mono ?_; rintro x w3 ⟨rfl, q1, q2⟩; have hS1 := hQ.out _ _ _ _ hS.out q1 q2; clear q1 q2; obtain ⟨d1, d2, d3, d4⟩ := hBx.out _ _ hS1; replace hS1 := Hid.mk hS1))
            go_roundw
            all_goals first | exact ⟨k + 1, by simp, by omega, by unfold FI; rw [hstp.out]; exact Hid.mk hS2.out.1⟩ | (simp only [intOf]; omega)
          · have hres : fs3 k L[k] s = adS (adS s L[k].m) ((k : Int) + 1) := by simp [fs3, fs2, fs1, hy, tgtB]
            rw [hres] at hstp
            replace hstp := Hid.mk hstp
            have etg : tgtB 1 = true := rfl
            clear hres
            generalize L[k].op = op at *
            generalize L[k].a = i1 at *
            generalize L[k].b = i2 at *
            generalize L[k].c = i3 at *
            generalize L[k].m = im at *
            go_wp2_with (first | (go_at_call 27; refine (hW.out _ _).mono ?_; rintro x w2 ⟨rfl, rfl⟩; rw [hy]) | (go_at_call 34; refine (hT.out _ _).mono ?_; rintro x w2 ⟨rfl, rfl⟩; (try rw [etg])) | (go_at_call 33; refine (hA.out _ _ _ hS1.out.1.st).mono ?_; rintro x w4 ⟨rfl, q1, q2⟩; have hS2 := Hid.mk (hQ.out _ _ _ _ hS1.out q1 q2); clear q1 q2) | (go_at_call 33; refine (hA.out _ _ _ hS.out.1.st).mono ?_; rintro x w3 ⟨rfl, q1, q2⟩; have hS1 := hQ.out _ _ _ _ hS.out q1 q2; clear q1 q2; obtain ⟨d1, d2, d3, d4⟩ := hBx.out _ _ hS1; replace hS1 := Hid.mk hS1))
            go_roundw
            all_goals first | exact ⟨k + 1, by simp, by omega, by unfold FI; rw [hstp.out]; exact Hid.mk hS2.out.1⟩ | (simp only [intOf]; omega)
          · have hres : fs3 k L[k] s = adS (adS s L[k].m) ((k : Int) + 1) := by simp [fs3, fs2, fs1, hy, tgtB]
            rw [hres] at hstp
            replace hstp := Hid.mk hstp
            have etg : tgtB 2 = true := rfl
            clear hres
            generalize L[k].op = op at *
            generalize L[k].a = i1 at *
            generalize L[k].b = i2 at *
            generalize L[k].c = i3 at *
            generalize L[k].m = im at *
            go_wp2_with (first | (go_at_call 27; refine (hW.out _ _).mono ?_; rintro x w2 ⟨rfl, rfl⟩; rw [hy]) | (go_at_call 34; refine (hT.out _ _).mono ?_; rintro x w2 ⟨rfl, rfl⟩; (try rw [etg])) | (go_at_call 33; refine (hA.out _ _ _ hS1.out.1.st).mono ?_; rintro x w4 ⟨rfl, q1, q2⟩; have hS2 := Hid.mk (hQ.out _ _ _ _ hS1.out q1 q2); clear q1 q2) | (go_at_call 33; refine (hA.out _ _ _ hS.out.1.st).mono ?_; rintro x w3 ⟨rfl, q1, q2⟩; have hS1 := hQ.out _ _ _ _ hS.out q1 q2; clear q1 q2; obtain ⟨d1, d2, d3, d4⟩ := hBx.out _ _ hS1; replace hS1 := Hid.mk hS1))
            go_roundw
            all_goals first | exact ⟨k + 1, by simp, by omega, by unfold FI; rw [hstp.out]; exact Hid.mk hS2.out.1⟩ | (simp only [intOf]; omega)
          · have hres : fs3 k L[k] s = s := by simp [fs3, fs2, fs1, hy, tgtB]
            rw [hres] at hstp
            replace hstp := Hid.mk hstp
            have etg : tgtB 0 = false := rfl
            clear hres
            generalize L[k].op = op at *
            generalize L[k].a = i1 at *
            generalize L[k].b = i2 at *
            generalize L[k].c = i3 at *
            generalize L[k].m = im at *
            go_wp2_with (first | (go_at_call 27; refine (hW.out _ _).mono ?_; rintro x w2 ⟨rfl, rfl⟩; rw [hy]) | (go_at_call 34; refine (hT.out _ _).mono ?_; rintro x w2 ⟨rfl, rfl⟩; (try rw [etg])))
            go_roundw
            all_goals first | exact ⟨k + 1, by simp, by omega, by unfold FI; rw [hstp.out]; exact Hid.mk hS.out.1⟩ | (simp only [intOf]; omega)
        · have hi1 : ¬ (k : Int) < L.length := by omega
          have ek : k = L.length := by omega
          subst ek
          have hR := at_below (At.new w #[.slice none 0 0, .int .i64 0] 52) hS.be (Nat.lt_succ_self _)
          have r0 : wr.cell? ⟨w.heap.size, 0, none⟩ = some (.slice none 0 0) := hR.2.1 0
          have r1 : wr.cell? ⟨w.heap.size, 1, none⟩ = some (.int .i64 0) := hR.2.1 1
          have r2 := hR.2.2
          have r3 := hR.1
          have hFin : ∀ a b, SIn ((wr.setCell ⟨w.heap.size, 0, none⟩ a).setCell ⟨w.heap.size, 1, none⟩ b) (w.heap.size + 2) L.length (firF L E) ∧ Below w.heap.size w ((wr.setCell ⟨w.heap.size, 0, none⟩ a).setCell ⟨w.heap.size, 1, none⟩ b) := fun a b =>
            ⟨sin_kp (sin_kp hS.st (Kp.set (S := fun q => q = w.heap.size) wr _ a rfl) (by omega)) (Kp.set (S := fun q => q = w.heap.size) _ _ b rfl) (by omega), (((hB0.out.trans (hS.be.mono (by omega))).setCell (Nat.le_refl _) a).setCell (Nat.le_refl _) b)⟩
          replace hS := Hid.mk hS
          replace hR := Hid.mk hR
          replace hFin := Hid.mk hFin
          clear hI
          go_wp2_with fail
          simp [bodyPost, results, Try.results21, go_sem, r0, r1]
          exact ⟨(hFin.out _ _).1, (hFin.out _ _).2⟩
end F
end Go.Proofs.Ytoppcikacakjcaa


/-
  Stage 8, flow: Blocks.
-/
namespace Go.Proofs.Ytoppcikacakjcaa
namespace F
open Go.RowKit
open T

/-- A row of the code, in memory. -/
structure Bk where
  f : Nat
  l : Nat
  nx : Value
def Bk.vals (b : Bk) : List Value := [.int .i64 b.f, .int .i64 b.l, b.nx]
def Bk.fl (b : Bk) : Nat × Nat := (b.f, b.l)
def bfl (R : List Bk) : List Value := R.flatMap Bk.vals
theorem bfl_len (R : List Bk) : (bfl R).length = R.length * 3 := by
  induction R with
  | nil => rfl
  | cons a l ih => simp only [bfl, List.flatMap_cons, List.length_append] at ih ⊢; rw [ih]; simp [Bk.vals]; omega
theorem bfl_app (R S : List Bk) : bfl (R ++ S) = bfl R ++ bfl S := by simp [bfl]
/-- Rows of the code that the call owns. -/
def BR (w : World) (lo : Nat) (v : Value) (R : List Bk) : Prop := w.ownsRow lo 37 3 v R.length (bfl R)
theorem BR.slice {w : World} {lo : Nat} {v : Value} {R : List Bk} (h : BR w lo v R) : ∃ a cap, v = .slice a R.length cap := by
  rcases h.2 with ⟨rfl, h0⟩ | ⟨g, cap, cur, rfl, _⟩
  · exact ⟨none, 0, by rw [h0]⟩
  · exact ⟨_, cap, rfl⟩
theorem BR.here {w : World} {lo : Nat} {v : Value} {R : List Bk} (h : BR w lo v R) (hR : R ≠ []) : ∃ g cap, v = .slice (some ⟨g, 0, none⟩) R.length cap ∧ lo ≤ g ∧ g < w.heap.size := by
  rcases h.2 with ⟨_, h0⟩ | ⟨g, cap, cur, hv, hb, hh, _⟩
  · exact absurd (List.length_eq_zero_iff.1 h0) hR
  · exact ⟨g, cap, hv, hb, (Array.getElem?_eq_some_iff.1 hh).1⟩
theorem bfl_at (R0 : List Bk) (x : Bk) (R1 : List Bk) (j : Nat) (hj : j < 3) : (bfl (R0 ++ x :: R1))[R0.length * 3 + j]? = x.vals[j]? := by
  rw [bfl_app, List.getElem?_append_right (by rw [bfl_len]; omega), bfl_len, Nat.add_sub_cancel_left]
  show (x.vals ++ bfl R1)[j]? = _
  rw [List.getElem?_append_left (by simp [Bk.vals]; omega)]
theorem bfl_set (R0 : List Bk) (x y : Bk) (R1 : List Bk) (j : Nat) (hj : j < 3) (v : Value) (hy : y.vals = x.vals.set j v) : (bfl (R0 ++ x :: R1)).set (R0.length * 3 + j) v = bfl (R0 ++ y :: R1) := by
  rw [bfl_app, bfl_app, List.set_append_right _ _ (by rw [bfl_len]; omega), bfl_len, Nat.add_sub_cancel_left]
  congr 1
  show (x.vals ++ bfl R1).set j v = y.vals ++ bfl R1
  rw [List.set_append_left _ _ (by simp [Bk.vals]; omega), hy]
theorem BR.cell {w : World} {lo g n cap : Nat} {R0 R1 : List Bk} {x : Bk} (h : BR w lo (.slice (some ⟨g, 0, none⟩) n cap) (R0 ++ x :: R1)) (j : Nat) (hj : j < 3) : w.cell? ⟨g, R0.length * 3 + j, none⟩ = x.vals[j]? := by
  have hv : x.vals[j]? = some (x.vals[j]'(by simpa [Bk.vals] using hj)) := by simp
  have hc := World.ownsRow.cells h (g := g) rfl (R0.length * 3 + j) (x.vals[j]'(by simpa [Bk.vals] using hj)) (by rw [bfl_at R0 x R1 j hj, hv])
  rw [addr_add, Nat.zero_add] at hc
  rw [hc, hv]
theorem BR.put {w : World} {lo g cap : Nat} {R0 R1 : List Bk} {x : Bk} (h : BR w lo (.slice (some ⟨g, 0, none⟩) (R0 ++ x :: R1).length cap) (R0 ++ x :: R1)) (y : Bk) (j : Nat) (hj : j < 3) (v : Value) (hy : y.vals = x.vals.set j v) :
    BR (w.setCell ⟨g, R0.length * 3 + j, none⟩ v) lo (.slice (some ⟨g, 0, none⟩) (R0 ++ x :: R1).length cap) (R0 ++ y :: R1) := by
  have := (World.ownsRow.stored h (R0.length * 3 + j) v).1
  rw [bfl_set R0 x y R1 j hj v hy] at this
  have e : (R0 ++ y :: R1).length = (R0 ++ x :: R1).length := by simp
  unfold BR
  rw [e]
  exact this
theorem wpList_append_blk {ops : Array Oper} {rest : List Oper} {o : Oper} {a : Act} {Q : Exit → Act → World → Prop} {w : World} (hgd : o.guard = none) (s x : Operand)
    (ho : o.op = .call { callee := .builtin .append, args := #[s, x], argTypes := #[31, 31] })
    (base : Nat) (v : Value) (R : List Bk) (y : Bk) (hs : a.eval s = v) (hR : BR w base v R)
    (X : Nat) (hx : a.eval x = .slice (some ⟨X, 0, none⟩) 1 1) (hX : At w X y.vals.toArray) (h1 : y.nx.oneCell' = true) (hlen : R.length ≤ 8000000) (hbase : base ≤ w.heap.size)
    (h : ∀ g cap w', BR w' base (.slice (some ⟨g, 0, none⟩) (R.length + 1) cap) (R ++ [y]) → w.grownBy w' v.ownBlock → (v.ownBlock = some g ∨ g = w.heap.size) → g < w'.heap.size → wpList Try.prog ops Q rest (a.put o.dst (.slice (some ⟨g, 0, none⟩) (R.length + 1) cap)) w') :
    wpList Try.prog ops Q (o :: rest) a w := by
  obtain ⟨i0, hi, hz0, hz1, hz2⟩ := info_parts' (t := 37) (z := .agg #[.int .i64 0, .int .i64 0, .slice none 0 0]) (s := 3) (b := 40) (by kernel_rfl)
  have hn : ∀ j u, y.vals[j]? = some u → w.cell? ((⟨X, 0, none⟩ : Addr).add j) = some u := by
    intro j u hj
    rw [addr_add, hX.2.1]
    simpa using hj
  refine wpList_append_lies _ hgd s x 31 ho base 37 i0 (.agg #[.int .i64 0, .int .i64 0, .slice none 0 0]) 3 40 Try.underlying31 hi hz0 hz1 hz2 rfl (by decide) v R.length (bfl R) hs hR ⟨X, 0, none⟩ 1 1 y.vals hx rfl hn (fun u hu => by simp only [Bk.vals, List.mem_cons, List.not_mem_nil, or_false] at hu; rcases hu with rfl | rfl | rfl; (rfl); (rfl); exact h1) (by decide) (by unfold maxLen; omega) (by omega) hbase _ rfl ?_
  intro g cap w' h1 h2 h3 h4
  refine h g cap w' ?_ h2 h3 h4
  have e : bfl R ++ y.vals = bfl (R ++ [y]) := by rw [bfl_app]; simp [bfl]
  rw [e] at h1
  unfold BR
  rw [List.length_append]
  exact h1
def upL (j : Nat) : List (Nat × Nat) → List (Nat × Nat)
  | [] => []
  | [(a, _)] => [(a, j)]
  | x :: y :: r => x :: upL j (y :: r)
theorem upL_app (j : Nat) : ∀ (R : List (Nat × Nat)) (a b : Nat), upL j (R ++ [(a, b)]) = R ++ [(a, j)]
  | [], a, b => rfl
  | [x], a, b => rfl
  | x :: y :: r, a, b => by
    have := upL_app j (y :: r) a b
    show x :: upL j (y :: (r ++ [(a, b)])) = _
    rw [show y :: (r ++ [(a, b)]) = (y :: r) ++ [(a, b)] from rfl, this]
    rfl
/-- The rows of the code up to one. -/
def blF (f : Nat → Bool) : Nat → List (Nat × Nat)
  | 0 => []
  | j + 1 => if f j = true then blF f j ++ [(j, j)] else upL j (blF f j)
theorem blF_ne (f : Nat → Bool) (h0 : f 0 = true) : ∀ j, 0 < j → blF f j ≠ []
  | 1, _ => by simp [blF, h0]
  | j + 2, _ => by
    have := blF_ne f h0 (j + 1) (by omega)
    rw [blF]
    split
    · simp
    · intro e
      rcases List.eq_nil_or_concat (blF f (j + 1)) with r | ⟨R, x, r⟩
      · exact this r
      · rw [r, List.concat_eq_append] at e
        obtain ⟨a, b⟩ := x
        rw [upL_app] at e
        simp at e
theorem upL_len (j : Nat) (R : List (Nat × Nat)) : (upL j R).length = R.length := by
  rcases List.eq_nil_or_concat R with r | ⟨S, x, r⟩
  · subst r; rfl
  · subst r
    obtain ⟨a, b⟩ := x
    rw [List.concat_eq_append, upL_app]; simp
theorem blF_len (f : Nat → Bool) : ∀ j, (blF f j).length ≤ j
  | 0 => by simp [blF]
  | j + 1 => by
    have := blF_len f j
    rw [blF]
    split
    · simp; omega
    · rw [upL_len]; omega
theorem fir_zero (L : List Ins) (E : List Int) : firF L E 0 = true := by
  have h1 : ∀ (E : List Int) (s : Nat → Bool), s 0 = true → (E.foldl adS s) 0 = true := by
    intro E
    induction E with
    | nil => exact fun s h => h
    | cons x E ih => exact fun s h => ih _ (by simp [adS, h])
  have h2 : ∀ j, fsC L (fsE E E.length) j 0 = true := by
    intro j
    induction j with
    | zero => exact h1 _ _ (by simp [adS])
    | succ j ih =>
      rw [fsC]
      cases L[j]? with
      | none => exact ih
      | some i =>
        show fs3 j i (fsC L (fsE E E.length) j) 0 = true
        have g1 : fs1 i (fsC L (fsE E E.length) j) 0 = true := by unfold fs1; split <;> simp [ih]
        have g2 : fs2 i (fsC L (fsE E E.length) j) 0 = true := by unfold fs2; split <;> simp [adS, g1]
        unfold fs3
        split
        · exact g2
        · simp [adS, g2]
  exact h2 L.length
end F
end Go.Proofs.Ytoppcikacakjcaa
