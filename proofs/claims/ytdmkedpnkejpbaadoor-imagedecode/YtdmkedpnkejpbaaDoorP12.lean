import Derived.Test.YtdmkedpnkejpbaaDoorP11
import Derived.Test.YtdmkedpnkejpbaaDoorP09
/-
  Stage 4, image: the writer's kinds, gate.
-/
namespace Go.Proofs.YtdmkedpnkejpbaaDoor
open Go.RowKit

theorem typsB_at {L : List PTyp} {j : Nat} (h : j < L.length) : typsB (L.drop j) = typB L[j] ++ typsB (L.drop (j + 1)) := by
  rw [List.drop_eq_getElem_cons h, typsB]
theorem len_w {n : Nat} (h : n ≤ maxG) : IntKind.u64.wrap (n : Int) = n := by unfold maxG at h; rw [IntKind.wrap_u64]; omega
theorem len_in {n : Nat} (h : n ≤ maxG) : W64 (n : Int) := by unfold maxG at h; unfold W64; omega
def kindsB (L : List PTyp) : List UInt8 := putB 1 [(L.length : Int)] ++ typsB L
set_option maxHeartbeats 2000000 in
theorem kinds_any (L : List PTyp) (c : Nat) (a : Option Addr) (base kw : Nat) (B : List UInt8) (w : World) (h : WBox w base kw B) (hL : FIn 7 PTyp.vals base w a L) (hr : ∀ t ∈ L, t.Rng) (hl : L.length ≤ maxG) (hlen : B.length + (kindsB L).length ≤ 140737488355328) :
    Calls Tryd.prog 73 #[.pointer (some ⟨kw, 0, none⟩), .slice a L.length c] w fun x w' => x = .returned (.tuple #[]) ∧ WBox w' base kw (B ++ kindsB L) ∧ Wrote base w w' := by
  have hbs := h.lt
  have e1 := len_w hl
  have u1 := len_in hl
  have hl1 : L.length ≤ 140737488355328 := hl
  have hlen2 := hlen
  unfold kindsB at hlen2
  simp only [List.length_append, putB_length, List.length_cons, List.length_nil] at hlen2
  replace hL := Hid.mk hL
  replace hr := Hid.mk hr
  replace hlen := Hid.mk hlen
  generalize hT : B ++ kindsB L = T at *
  replace hT := Hid.mk hT
  go_enter Tryd.func73, Tryd.ntmps73
  go_wp2_with fail
  refine (put_any 1 [(L.length : Int)] w.heap.size 1 base kw B _ (h.below ((Gr.refl w).alloc _).below) (Box.new _ _ _) (by simpa using u1) (by omega) (by simp; omega) (by simp)).mono ?_
  rintro x w1 ⟨rfl, hW, hWr⟩
  replace hWr := (Wrote.gr ((Gr.refl w).alloc _) hbs).trans hWr
  clear h
  go_wp2_with fail
  go_loopw [14] (fun i wr => ∃ (j : Nat) (B1 : List UInt8), i = .int .i64 j ∧ j ≤ L.length ∧ Hid (WBox wr base kw B1 ∧ B1 ++ typsB (L.drop j) = T ∧ Wrote base w wr)) (fun i _ => L.length - (intOf i).toNat)
  case atStart => exact ⟨0, _, rfl, by omega, ⟨hW, by rw [← hT.out]; simp [kindsB], hWr⟩⟩
  case round =>
    clear hW hWr
    obtain ⟨j, B1, rfl, hj, ⟨hW, hB1, hWr⟩⟩ := hrel
    by_cases hlt : j < L.length
    · have jl : (j : Int) < L.length := by omega
      obtain ⟨b, off, rfl, hb, hb2, hc⟩ := hL.out.below hWr.below j hlt
      obtain ⟨c0, c1, c2, c3, c4, c5, c6⟩ := typ_cells hc
      clear hc
      have hbr := hW.lt
      have hrj := hr.out L[j] (List.getElem_mem hlt)
      rw [typsB_at hlt] at hB1
      generalize L[j] = t at *
      have hl2 : B1.length + (typB t).length ≤ 140737488355328 := by
        have h1 := congrArg List.length hB1
        have h2 := congrArg List.length hT.out
        have h3 := hlen.out
        simp only [List.length_append] at h1 h2
        omega
      replace hB1 := Hid.mk hB1
      replace hW := Hid.mk hW
      replace hWr := Hid.mk hWr
      replace hl2 := Hid.mk hl2
      replace hrj := Hid.mk hrj
      go_wp2_with fail
      refine (kind_any t base kw B1 _ (hW.out.below ((Gr.refl wr).alloc _).below) hrj.out hl2.out).mono ?_
      rintro x w2 ⟨rfl, hW2, hWr2⟩
      replace hWr := Hid.mk (hWr.out.trans ((Wrote.gr ((Gr.refl wr).alloc _) hbr).trans hWr2))
      replace hW2 := Hid.mk hW2
      clear hWr2
      go_wp2_with fail
      go_roundw
      case rel => exact ⟨j + 1, _, by simp, by omega, ⟨hW2.out, by rw [← hB1.out, List.append_assoc], hWr.out⟩⟩
      case measure => simp [intOf]; omega
    · have jl : ¬ (j : Int) < L.length := by omega
      rw [drop_end hlt, typsB, List.append_nil] at hB1
      subst hB1
      replace hW := Hid.mk hW
      replace hWr := Hid.mk hWr
      go_wp2_with fail
      simp [bodyPost, results, Tryd.results73, go_sem]
      exact ⟨hW.out, hWr.out⟩
def gateB (g : PGate) : List UInt8 := putB 1 [u64 g.c] ++ putB 2 [u64 g.e] ++ kindsB g.args ++ kindsB g.res
set_option maxHeartbeats 2000000 in
theorem gate_any (g : PGate) (xa ya : Option Addr) (xc yc : Nat) (base kw : Nat) (B : List UInt8) (w : World) (h : WBox w base kw B) (hx : FIn 7 PTyp.vals base w xa g.args) (hy : FIn 7 PTyp.vals base w ya g.res) (hr : g.Rng) (hlen : B.length + (gateB g).length ≤ 140737488355328) :
    Calls Tryd.prog 49 #[.pointer (some ⟨kw, 0, none⟩), .agg #[.int .i64 g.c, .int .i64 g.e, .slice xa g.args.length xc, .slice ya g.res.length yc]] w fun x w' => x = .returned (.tuple #[]) ∧ WBox w' base kw (B ++ gateB g) ∧ Wrote base w w' := by
  obtain ⟨_, _, g3, g4, g5, g6⟩ := hr
  have hbs := h.lt
  have e1 := wrap_u64' g.c
  have e2 := wrap_u64' g.e
  have u1 := u64_in g.c
  have u2 := u64_in g.e
  unfold gateB at hlen ⊢
  generalize u64 g.c = gc at *
  generalize u64 g.e = ge at *
  simp only [List.length_append, putB_length, List.length_cons, List.length_nil] at hlen
  replace hlen := Hid.mk hlen
  go_enter Tryd.func49, Tryd.ntmps49
  go_wp2_with fail
  refine (put_any 1 [gc] (w.heap.size + 1) 1 base kw B _ (h.below (((Gr.refl w).alloc _).alloc _).below) (Box.next _ _ _ _) (by simpa using u1) (by omega) (by have := hlen.out; simp; omega) (by simp)).mono ?_
  rintro x w1 ⟨rfl, hW, hWr⟩
  have X1 := hWr.keep _ _ _ (by decide) (by decide) ((Box.new w #[.int .i64 g.c, .int .i64 g.e, .slice xa g.args.length xc, .slice ya g.res.length yc] 61).alloc _)
  replace hWr := (Wrote.gr (((Gr.refl w).alloc _).alloc _) hbs).trans hWr
  have hs1 := hWr.size
  clear h
  have ⟨z1, p1, _⟩ := X1.at
  replace X1 := Hid.mk X1
  go_wp2_with fail
  refine (put_any 2 [ge] w1.heap.size 1 base kw _ _ (hW.below ((Gr.refl w1).alloc _).below) (Box.new _ _ _) (by simpa using u2) (by omega) (by have := hlen.out; simp [putB_length]; omega) (by simp)).mono ?_
  rintro x w2 ⟨rfl, hW2, hWr2⟩
  clear z1 p1 hW
  replace X1 := Hid.mk (hWr2.keep _ _ _ (by decide) (by decide) (X1.out.alloc _))
  replace hWr := hWr.trans ((Wrote.gr ((Gr.refl w1).alloc _) (by omega)).trans hWr2)
  clear hWr2
  have ⟨z1, p1, _⟩ := X1.out.at
  go_wp2_with fail
  refine (kinds_any g.args xc xa base kw _ _ hW2 (hx.below hWr.below) g5 g3 (by have := hlen.out; simp [putB_length]; omega)).mono ?_
  rintro x w3 ⟨rfl, hW3, hWr2⟩
  clear z1 p1 hW2
  replace X1 := Hid.mk (hWr2.keep _ _ _ (by decide) (by decide) X1.out)
  replace hWr := hWr.trans hWr2
  clear hWr2
  have ⟨z1, p1, _⟩ := X1.out.at
  go_wp2_with fail
  refine (kinds_any g.res yc ya base kw _ _ hW3 (hy.below hWr.below) g6 g4 (by have := hlen.out; simp [putB_length]; omega)).mono ?_
  rintro x w4 ⟨rfl, hW4, hWr2⟩
  clear z1 p1 hW3
  replace hWr := hWr.trans hWr2
  go_wp2_with fail
  simp only [List.append_assoc] at hW4 ⊢
  simp [bodyPost, results, Tryd.results49, go_sem]
  exact ⟨hW4, hWr⟩
end Go.Proofs.YtdmkedpnkejpbaaDoor


/-
  Stage 4, image: the writer's region.
-/
namespace Go.Proofs.YtdmkedpnkejpbaaDoor
open Go.RowKit

def slotB (k : PSlot) : List UInt8 := typB k.t ++ putB 8 [k.c]
def slotsB : List PSlot → List UInt8
  | [] => []
  | k :: l => slotB k ++ slotsB l
theorem slotsB_at {L : List PSlot} {j : Nat} (h : j < L.length) : slotsB (L.drop j) = slotB L[j] ++ slotsB (L.drop (j + 1)) := by
  rw [List.drop_eq_getElem_cons h, slotsB]
def dataBy (r : PReg) : List UInt8 := if r.slots.length = 0 then putB 2 [(r.data.length : Int)] ++ r.data else []
def regB (r : PReg) : List UInt8 := putB 4 [r.b, r.n] ++ putB 2 [(r.slots.length : Int)] ++ slotsB r.slots ++ dataBy r
set_option maxHeartbeats 2000000 in
theorem region_any (r : PReg) (sa : Option Addr) (sc : Nat) (base kw : Nat) (B : List UInt8) (w : World) (h : WBox w base kw B) (hs : FIn 8 PSlot.vals base w sa r.slots) (hr : r.Rng) (hlen : B.length + (regB r).length ≤ 140737488355328) :
    Calls Tryd.prog 47 #[.pointer (some ⟨kw, 0, none⟩), .agg #[.int .u64 r.b, .int .u64 r.n, .string (str r.data), .slice sa r.slots.length sc]] w fun x w' => x = .returned (.tuple #[]) ∧ WBox w' base kw (B ++ regB r) ∧ Wrote base w w' := by
  obtain ⟨r1, r2, r3, r4, r5⟩ := hr
  have hbs := h.lt
  have e1 := len_w r4
  have e2 := len_w r3
  have ss := str_size r.data
  have u1 := len_in r4
  have u2 := len_in r3
  have hl1 : r.slots.length ≤ 140737488355328 := r4
  have hlen2 := hlen
  unfold regB at hlen2
  simp only [List.length_append, putB_length, List.length_cons, List.length_nil] at hlen2
  generalize hT : B ++ regB r = T at *
  replace hT := Hid.mk hT
  replace hs := Hid.mk hs
  replace r5 := Hid.mk r5
  replace hlen := Hid.mk hlen
  replace hlen2 := Hid.mk hlen2
  go_enter Tryd.func47, Tryd.ntmps47
  go_wp2_with fail
  refine (put_any 4 [r.b, r.n] (w.heap.size + 1) 2 base kw B _ (h.below (((Gr.refl w).alloc _).alloc _).below) (Box.next _ _ _ _) (by simp; exact ⟨r1, r2⟩) (by omega) (by have := hlen2.out; simp; omega) (by simp)).mono ?_
  rintro x w1 ⟨rfl, hW, hWr⟩
  have X1 := hWr.keep _ _ _ (by decide) (by decide) ((Box.new w #[.int .u64 r.b, .int .u64 r.n, .string (str r.data), .slice sa r.slots.length sc] 52).alloc _)
  replace hWr := (Wrote.gr (((Gr.refl w).alloc _).alloc _) hbs).trans hWr
  have hs1 := hWr.size
  clear h
  have ⟨z1, p1, _⟩ := X1.at
  replace X1 := Hid.mk X1
  go_wp2_with fail
  refine (put_any 2 [(r.slots.length : Int)] w1.heap.size 1 base kw _ _ (hW.below ((Gr.refl w1).alloc _).below) (Box.new _ _ _) (by simpa using u1) (by omega) (by have := hlen2.out; simp [putB_length]; omega) (by simp)).mono ?_
  rintro x w2 ⟨rfl, hW2, hWr2⟩
  clear z1 p1 hW
  replace X1 := Hid.mk (hWr2.keep _ _ _ (by decide) (by decide) (X1.out.alloc _))
  replace hWr := hWr.trans ((Wrote.gr ((Gr.refl w1).alloc _) (by omega)).trans hWr2)
  clear hWr2
  have ⟨z1, p1, _⟩ := X1.out.at
  go_wp2_with fail
  clear z1 p1
  go_loopw [23] (fun i wr => ∃ (j : Nat) (B1 : List UInt8), i = .int .i64 j ∧ j ≤ r.slots.length ∧ Hid (WBox wr base kw B1 ∧ B1 ++ slotsB (r.slots.drop j) ++ dataBy r = T ∧ Wrote base w wr ∧ Box wr w.heap.size #[.int .u64 r.b, .int .u64 r.n, .string (str r.data), .slice sa r.slots.length sc] 52)) (fun i _ => r.slots.length - (intOf i).toNat)
  case atStart => exact ⟨0, _, rfl, by omega, ⟨hW2, by rw [← hT.out]; simp [regB], hWr, X1.out⟩⟩
  case round =>
    clear hW2 hWr X1
    obtain ⟨j, B1, rfl, hj, ⟨hW, hB1, hWr, X1⟩⟩ := hrel
    by_cases hlt : j < r.slots.length
    · have jl : (j : Int) < r.slots.length := by omega
      obtain ⟨b, off, rfl, hb, hb2, hc⟩ := hs.out.below hWr.below j hlt
      obtain ⟨c0, c1, c2, c3, c4, c5, c6, c7⟩ := slot_cells hc
      clear hc
      have hbr := hW.lt
      have hrj := r5.out r.slots[j] (List.getElem_mem hlt)
      rw [slotsB_at hlt] at hB1
      generalize r.slots[j] = t at *
      unfold slotB at hB1
      have hl2 : B1.length + (typB t.t).length + 8 ≤ 140737488355328 := by
        have h1 := congrArg List.length hB1
        have h2 := congrArg List.length hT.out
        have h3 := hlen.out
        simp only [List.length_append, putB_length, List.length_cons, List.length_nil] at h1 h2
        omega
      replace hB1 := Hid.mk hB1
      replace hW := Hid.mk hW
      replace hWr := Hid.mk hWr
      replace hl2 := Hid.mk hl2
      replace hrj := Hid.mk hrj
      replace X1 := Hid.mk X1
      go_wp2_with fail
      refine (kind_any t.t base kw B1 _ (hW.out.below ((Gr.refl wr).alloc _).below) hrj.out.1 (by have := hl2.out; omega)).mono ?_
      rintro x w3 ⟨rfl, hW2, hWr2⟩
      have X2 := Hid.mk (hWr2.keep _ _ _ (by decide) (by decide) (Box.new wr #[.bool t.t.cap, .int .u64 t.t.b, .int .u64 t.t.e, .int .u64 t.t.lo, .int .u64 t.t.hi, .int .u8 t.t.p, .int .i64 t.t.s, .int .u64 t.c] 91))
      replace X1 := Hid.mk (hWr2.keep _ _ _ (by decide) (by decide) (X1.out.alloc _))
      replace hWr2 := (Wrote.gr ((Gr.refl wr).alloc _) hbr).trans hWr2
      have hs3 : base ≤ w3.heap.size := Nat.le_trans hbr hWr2.size
      replace hWr := Hid.mk (hWr.out.trans hWr2)
      replace hW2 := Hid.mk hW2
      clear hWr2 c0 c1 c2 c3 c4 c5 c6 c7
      have ⟨z1, p1, _⟩ := X2.out.at
      go_wp2_with fail
      refine (put_any 8 [t.c] w3.heap.size 1 base kw _ _ (hW2.out.below ((Gr.refl w3).alloc _).below) (Box.new _ _ _) (by simpa using hrj.out.2) (by omega) (by have := hl2.out; simp; omega) (by simp)).mono ?_
      rintro x w4 ⟨rfl, hW3, hWr3⟩
      clear z1 p1 X2
      replace X1 := Hid.mk (hWr3.keep _ _ _ (by decide) (by decide) (X1.out.alloc _))
      replace hWr := Hid.mk (hWr.out.trans ((Wrote.gr ((Gr.refl w3).alloc _) hs3).trans hWr3))
      replace hW3 := Hid.mk hW3
      clear hWr3 hW2
      go_wp2_with fail
      go_roundw
      case rel => exact ⟨j + 1, _, by simp, by omega, ⟨hW3.out, by rw [← hB1.out]; simp, hWr.out, X1.out⟩⟩
      case measure => simp [intOf]; omega
    · have jl : ¬ (j : Int) < r.slots.length := by omega
      rw [drop_end hlt, slotsB, List.append_nil] at hB1
      have hbr := hW.lt
      have hl2 : B1.length + (dataBy r).length ≤ 140737488355328 := by
        have h1 := congrArg List.length hB1
        have h2 := congrArg List.length hT.out
        have h3 := hlen.out
        simp only [List.length_append] at h1 h2
        omega
      have ⟨z1, p1, _⟩ := X1.at
      replace hW := Hid.mk hW
      replace hWr := Hid.mk hWr
      replace hB1 := Hid.mk hB1
      replace X1 := Hid.mk X1
      by_cases h0 : r.slots.length = 0
      · have g0 : ((r.slots.length : Int) == 0) = true := by rw [beq_iff_eq]; omega
        have ed : dataBy r = putB 2 [(r.data.length : Int)] ++ r.data := by simp [dataBy, h0]
        rw [ed] at hl2 hB1
        simp only [List.length_append, putB_length, List.length_cons, List.length_nil] at hl2
        clear h0 ed
        go_wp2_with fail
        refine (put_any 2 [(r.data.length : Int)] wr.heap.size 1 base kw _ _ (hW.out.below ((Gr.refl wr).alloc _).below) (Box.new _ _ _) (by simpa using u2) (by omega) (by simp; omega) (by simp)).mono ?_
        rintro x w3 ⟨rfl, hW3, hWr3⟩
        clear z1 p1
        replace X1 := Hid.mk (hWr3.keep _ _ _ (by decide) (by decide) (X1.out.alloc _))
        replace hWr := Hid.mk (hWr.out.trans ((Wrote.gr ((Gr.refl wr).alloc _) hbr).trans hWr3))
        replace hW3 := Hid.mk hW3
        clear hWr3 hW
        have ⟨z1, p1, _⟩ := X1.out.at
        go_wp2_with fail
        refine (text_any' r.data base kw _ _ hW3.out (by simp [putB_length]; omega)).mono ?_
        rintro x w4 ⟨rfl, hW4, hWr4⟩
        replace hWr := Hid.mk (hWr.out.trans hWr4)
        replace hW4 := Hid.mk hW4
        clear z1 p1 hWr4 hW3
        go_wp2_with fail
        simp [bodyPost, results, Tryd.results47, go_sem]
        exact ⟨by have h1 := hW4.out; have h2 := hB1.out; simp only [List.append_assoc] at h1 h2; rw [h2] at h1; exact h1, hWr.out⟩
      · have g0 : ((r.slots.length : Int) == 0) = false := by rw [beq_eq_false_iff_ne]; omega
        have ed : dataBy r = [] := by simp [dataBy, h0]
        rw [ed] at hB1
        clear h0 ed
        go_wp2_with fail
        simp [bodyPost, results, Tryd.results47, go_sem]
        exact ⟨by have h1 := hB1.out; simp only [List.append_nil] at h1; rw [← h1]; exact hW.out, hWr.out⟩
end Go.Proofs.YtdmkedpnkejpbaaDoor
