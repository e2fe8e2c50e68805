/-
  Stage 4, image: the writer's kinds, gate.
-/
import Derived.Test.YthmfaafpdogpdaaDoorMKind
import Derived.Test.YthmfaafpdogpdaaDoorMTypes
namespace Go.Proofs.YthmfaafpdogpdaaDoor
open Go.RowKit

theorem typsB_at {L : List PTyp} {j : Nat} (h : j < L.length) : typsB (L.drop j) = typB L[j] ++ typsB (L.drop (j + 1)) := by
  rw [List.drop_eq_getElem_cons h, typsB]
theorem len_w {n : Nat} (h : n ≤ maxG) : IntKind.u64.wrap (n : Int) = n := by unfold maxG at h; rw [IntKind.wrap_u64]; omega
theorem len_in {n : Nat} (h : n ≤ maxG) : W64 (n : Int) := by unfold maxG at h; unfold W64; omega
def kindsB (L : List PTyp) : List UInt8 := putB 1 [(L.length : Int)] ++ typsB L
set_option maxHeartbeats 2000000 in
theorem kinds_any (L : List PTyp) (c : Nat) (a : Option Addr) (base kw : Nat) (B : List UInt8) (w : World) (h : WBox w base kw B) (hL : FIn 7 PTyp.vals base w a L) (hr : ∀ t ∈ L, t.Rng) (hl : L.length ≤ maxG) (hlen : B.length + (kindsB L).length ≤ 140737488355328) :
    Calls Tryd.prog 83 #[.pointer (some ⟨kw, 0, none⟩), .slice a L.length c] w fun x w' => x = .returned (.tuple #[]) ∧ WBox w' base kw (B ++ kindsB L) ∧ Wrote base w w' := by
  have hbs := h.lt
  have e1 := len_w hl
  have u1 := len_in hl
  have hl1 : L.length ≤ 140737488355328 := hl
  have hlen2 := hlen
  unfold kindsB at hlen2
  simp only [List.length_append, putB_length, List.length_cons, List.length_nil] at hlen2
  replace hL := Hid.mk hL
  replace hr := Hid.mk hr
  replace hlen := Hid.mk hlen
  generalize hT : B ++ kindsB L = T at *
  replace hT := Hid.mk hT
  go_enter Tryd.func83, Tryd.ntmps83
  go_wp2_with fail
  refine (put_any 1 [(L.length : Int)] w.heap.size 1 base kw B _ (h.below ((Gr.refl w).alloc _).below) (Box.new _ _ _) (by simpa using u1) (by omega) (by simp; omega) (by simp)).mono ?_
  rintro x w1 ⟨rfl, hW, hWr⟩
  replace hWr := (Wrote.gr ((Gr.refl w).alloc _) hbs).trans hWr
  clear h
  go_wp2_with fail
  go_loopw [14] (fun i wr => ∃ (j : Nat) (B1 : List UInt8), i = .int .i64 j ∧ j ≤ L.length ∧ Hid (WBox wr base kw B1 ∧ B1 ++ typsB (L.drop j) = T ∧ Wrote base w wr)) (fun i _ => L.length - (intOf i).toNat)
  case atStart => exact ⟨0, _, rfl, by omega, ⟨hW, by rw [← hT.out]; simp [kindsB], hWr⟩⟩
  case round =>
    clear hW hWr
    obtain ⟨j, B1, rfl, hj, ⟨hW, hB1, hWr⟩⟩ := hrel
    by_cases hlt : j < L.length
    · have jl : (j : Int) < L.length := by omega
      obtain ⟨b, off, rfl, hb, hb2, hc⟩ := hL.out.below hWr.below j hlt
      obtain ⟨c0, c1, c2, c3, c4, c5, c6⟩ := typ_cells hc
      clear hc
      have hbr := hW.lt
      have hrj := hr.out L[j] (List.getElem_mem hlt)
      rw [typsB_at hlt] at hB1
      generalize L[j] = t at *
      have hl2 : B1.length + (typB t).length ≤ 140737488355328 := by
        have h1 := congrArg List.length hB1
        have h2 := congrArg List.length hT.out
        have h3 := hlen.out
        simp only [List.length_append] at h1 h2
        omega
      replace hB1 := Hid.mk hB1
      replace hW := Hid.mk hW
      replace hWr := Hid.mk hWr
      replace hl2 := Hid.mk hl2
      replace hrj := Hid.mk hrj
      go_wp2_with fail
      refine (kind_any t base kw B1 _ (hW.out.below ((Gr.refl wr).alloc _).below) hrj.out hl2.out).mono ?_
      rintro x w2 ⟨rfl, hW2, hWr2⟩
      replace hWr := Hid.mk (hWr.out.trans ((Wrote.gr ((Gr.refl wr).alloc _) hbr).trans hWr2))
      replace hW2 := Hid.mk hW2
      clear hWr2
      go_wp2_with fail
      go_roundw
      case rel => exact ⟨j + 1, _, by simp, by omega, ⟨hW2.out, by rw [← hB1.out, List.append_assoc], hWr.out⟩⟩
      case measure => simp [intOf]; omega
    · have jl : ¬ (j : Int) < L.length := by omega
      rw [drop_end hlt, typsB, List.append_nil] at hB1
      subst hB1
      replace hW := Hid.mk hW
      replace hWr := Hid.mk hWr
      go_wp2_with fail
      simp [bodyPost, results, Tryd.results83, go_sem]
      exact ⟨hW.out, hWr.out⟩
def gateB (g : PGate) : List UInt8 := putB 1 [u64 g.c] ++ putB 2 [u64 g.e] ++ kindsB g.args ++ kindsB g.res
set_option maxHeartbeats 2000000 in
theorem gate_any (g : PGate) (xa ya : Option Addr) (xc yc : Nat) (base kw : Nat) (B : List UInt8) (w : World) (h : WBox w base kw B) (hx : FIn 7 PTyp.vals base w xa g.args) (hy : FIn 7 PTyp.vals base w ya g.res) (hr : g.Rng) (hlen : B.length + (gateB g).length ≤ 140737488355328) :
    Calls Tryd.prog 63 #[.pointer (some ⟨kw, 0, none⟩), .agg #[.int .i64 g.c, .int .i64 g.e, .slice xa g.args.length xc, .slice ya g.res.length yc]] w fun x w' => x = .returned (.tuple #[]) ∧ WBox w' base kw (B ++ gateB g) ∧ Wrote base w w' := by
  obtain ⟨_, _, g3, g4, g5, g6⟩ := hr
  have hbs := h.lt
  have e1 := wrap_u64' g.c
  have e2 := wrap_u64' g.e
  have u1 := u64_in g.c
  have u2 := u64_in g.e
  unfold gateB at hlen ⊢
  generalize u64 g.c = gc at *
  generalize u64 g.e = ge at *
  simp only [List.length_append, putB_length, List.length_cons, List.length_nil] at hlen
  replace hlen := Hid.mk hlen
  go_enter Tryd.func63, Tryd.ntmps63
  go_wp2_with fail
  refine (put_any 1 [gc] (w.heap.size + 1) 1 base kw B _ (h.below (((Gr.refl w).alloc _).alloc _).below) (Box.next _ _ _ _) (by simpa using u1) (by omega) (by have := hlen.out; simp; omega) (by simp)).mono ?_
  rintro x w1 ⟨rfl, hW, hWr⟩
  have X1 := hWr.keep _ _ _ (by decide) (by decide) ((Box.new w #[.int .i64 g.c, .int .i64 g.e, .slice xa g.args.length xc, .slice ya g.res.length yc] 92).alloc _)
  replace hWr := (Wrote.gr (((Gr.refl w).alloc _).alloc _) hbs).trans hWr
  have hs1 := hWr.size
  clear h
  have ⟨z1, p1, _⟩ := X1.at
  replace X1 := Hid.mk X1
  go_wp2_with fail
  refine (put_any 2 [ge] w1.heap.size 1 base kw _ _ (hW.below ((Gr.refl w1).alloc _).below) (Box.new _ _ _) (by simpa using u2) (by omega) (by have := hlen.out; simp [putB_length]; omega) (by simp)).mono ?_
  rintro x w2 ⟨rfl, hW2, hWr2⟩
  clear z1 p1 hW
  replace X1 := Hid.mk (hWr2.keep _ _ _ (by decide) (by decide) (X1.out.alloc _))
  replace hWr := hWr.trans ((Wrote.gr ((Gr.refl w1).alloc _) (by omega)).trans hWr2)
  clear hWr2
  have ⟨z1, p1, _⟩ := X1.out.at
  go_wp2_with fail
  refine (kinds_any g.args xc xa base kw _ _ hW2 (hx.below hWr.below) g5 g3 (by have := hlen.out; simp [putB_length]; omega)).mono ?_
  rintro x w3 ⟨rfl, hW3, hWr2⟩
  clear z1 p1 hW2
  replace X1 := Hid.mk (hWr2.keep _ _ _ (by decide) (by decide) X1.out)
  replace hWr := hWr.trans hWr2
  clear hWr2
  have ⟨z1, p1, _⟩ := X1.out.at
  go_wp2_with fail
  refine (kinds_any g.res yc ya base kw _ _ hW3 (hy.below hWr.below) g6 g4 (by have := hlen.out; simp [putB_length]; omega)).mono ?_
  rintro x w4 ⟨rfl, hW4, hWr2⟩
  clear z1 p1 hW3
  replace hWr := hWr.trans hWr2
  go_wp2_with fail
  simp only [List.append_assoc] at hW4 ⊢
  simp [bodyPost, results, Tryd.results63, go_sem]
  exact ⟨hW4, hWr⟩
end Go.Proofs.YthmfaafpdogpdaaDoor
