import Derived.Test.YtmmakknhaacplaaGreatDoorP11
import Derived.Test.YtmmakknhaacplaaGreatDoorP06
import Derived.Test.YtmmakknhaacplaaGreatDoorP09
/-
  Stage 4, image: the writer's image.
-/
namespace Go.Proofs.YtmmakknhaacplaaGreatDoor
open Go.RowKit

def magicB : List UInt8 := [80, 65, 68, 68, 75, 49]
def regsB : List PReg → List UInt8
  | [] => []
  | r :: l => regB r ++ regsB l
def compsB : List PComp → List UInt8
  | [] => []
  | c :: l => compB c ++ compsB l
def gatesB : List PGate → List UInt8
  | [] => []
  | g :: l => gateB g ++ gatesB l
theorem regsB_at {L : List PReg} {j : Nat} (h : j < L.length) : regsB (L.drop j) = regB L[j] ++ regsB (L.drop (j + 1)) := by
  rw [List.drop_eq_getElem_cons h, regsB]
theorem compsB_at {L : List PComp} {j : Nat} (h : j < L.length) : compsB (L.drop j) = compB L[j] ++ compsB (L.drop (j + 1)) := by
  rw [List.drop_eq_getElem_cons h, compsB]
theorem gatesB_at {L : List PGate} {j : Nat} (h : j < L.length) : gatesB (L.drop j) = gateB L[j] ++ gatesB (L.drop (j + 1)) := by
  rw [List.drop_eq_getElem_cons h, gatesB]
/-- A program's bytes. -/
def imgB (m : PImg) : List UInt8 := magicB ++ putB 1 [u64 m.depth, (m.regs.length : Int), (m.comps.length : Int), (m.gates.length : Int)] ++ regsB m.regs ++ compsB m.comps ++ gatesB m.gates
theorem part_le {A B C T : List UInt8} {n : Nat} (h : A ++ (B ++ C) = T) (hT : T.length ≤ n) : A.length + B.length ≤ n := by
  have h1 := congrArg List.length h
  simp only [List.length_append] at h1
  omega
set_option maxHeartbeats 4000000 in
theorem image_any (m : PImg) (ra ca ga : Option Addr) (rc cc gc : Nat) (base kw : Nat) (w : World) (ht : TabIn w) (h2 : 2 ≤ base) (h : WBox w base kw []) (hm : ImgIn base w ra ca ga m) (hr : m.Rng) (hlen : (imgB m).length ≤ 140737488355328) :
    Calls Tryz.prog 18 #[.pointer (some ⟨kw, 0, none⟩), .agg #[.slice ra m.regs.length rc, .slice ca m.comps.length cc, .slice ga m.gates.length gc, .int .i64 m.depth]] w fun x w' => x = .returned (.tuple #[]) ∧ WBox w' base kw (imgB m) ∧ Wrote base w w' := by
  obtain ⟨⟨r1, r2⟩, ⟨r3, r4⟩, ⟨r5, r6⟩, r7⟩ := hr
  have hbs := h.lt
  have e1 := wrap_u64' m.depth
  have e2 := len_w r1
  have e3 := len_w r3
  have e4 := len_w r5
  have u1 := u64_in m.depth
  have u2 := len_in r1
  have u3 := len_in r3
  have u4 := len_in r5
  have hl1 : m.regs.length ≤ 140737488355328 := r1
  have hl2 : m.comps.length ≤ 140737488355328 := r3
  have hl3 : m.gates.length ≤ 140737488355328 := r5
  have hlen2 := hlen
  generalize hT : imgB m = T at hlen2 ⊢
  unfold imgB at hT hlen
  generalize u64 m.depth = dd at *
  simp only [List.length_append, putB_length, List.length_cons, List.length_nil] at hlen
  replace hT := Hid.mk hT
  replace hm := Hid.mk hm
  replace r2 := Hid.mk r2
  replace r4 := Hid.mk r4
  replace r6 := Hid.mk r6
  replace hlen := Hid.mk hlen
  replace hlen2 := Hid.mk hlen2
  replace ht := Hid.mk ht
  clear r1 r3 r5
  go_enter Tryz.func18, Tryz.ntmps18
  go_wp2_with fail
  refine (text_any' magicB base kw [] _ (h.below ((Gr.refl w).alloc _).below) (by simp [magicB])).mono ?_
  rintro x w1 ⟨rfl, hW, hWr⟩
  have X1 := hWr.keep _ _ _ (by decide) (by decide) (Box.new w #[.slice ra m.regs.length rc, .slice ca m.comps.length cc, .slice ga m.gates.length gc, .int .i64 m.depth] 26)
  replace hWr := (Wrote.gr ((Gr.refl w).alloc _) hbs).trans hWr
  have hs1 := hWr.size
  clear h
  have ⟨z1, p1, _⟩ := X1.at
  replace X1 := Hid.mk X1
  go_wp2_with fail
  refine (put_any 1 [dd, (m.regs.length : Int), (m.comps.length : Int), (m.gates.length : Int)] w1.heap.size 4 base kw _ _ (hW.below ((Gr.refl w1).alloc _).below) (Box.new _ _ _) (by simp; exact ⟨u1, u2, u3, u4⟩) (by omega) (by have := hlen.out; simp; omega) (by simp)).mono ?_
  rintro x w2 ⟨rfl, hW2, hWr2⟩
  clear z1 p1 hW
  replace X1 := Hid.mk (hWr2.keep _ _ _ (by decide) (by decide) (X1.out.alloc _))
  replace hWr := hWr.trans ((Wrote.gr ((Gr.refl w1).alloc _) (by omega)).trans hWr2)
  clear hWr2
  have ⟨z1, p1, _⟩ := X1.out.at
  go_wp2_with fail
  clear z1 p1
  go_loopw [33] (fun i wr => ∃ (j : Nat) (B1 : List UInt8), i = .int .i64 j ∧ j ≤ m.regs.length ∧ Hid (WBox wr base kw B1 ∧ B1 ++ (regsB (m.regs.drop j) ++ (compsB m.comps ++ gatesB m.gates)) = T ∧ Wrote base w wr ∧ Box wr w.heap.size #[.slice ra m.regs.length rc, .slice ca m.comps.length cc, .slice ga m.gates.length gc, .int .i64 m.depth] 26)) (fun i _ => m.regs.length - (intOf i).toNat)
  case atStart => exact ⟨0, _, rfl, by omega, ⟨hW2, by rw [← hT.out]; simp, hWr, X1.out⟩⟩
  case round =>
    clear hW2 hWr X1
    obtain ⟨j, B1, rfl, hj, ⟨hW, hB1, hWr, X1⟩⟩ := hrel
    have hbr := hW.lt
    by_cases hlt : j < m.regs.length
    · have jl : (j : Int) < m.regs.length := by omega
      obtain ⟨b, off, sa, sc, rfl, hb, hb2, c0, c1, c2, c3, hs⟩ := (hm.out.below hWr.below).regs j hlt
      have hrj := r2.out m.regs[j] (List.getElem_mem hlt)
      rw [regsB_at hlt, List.append_assoc] at hB1
      generalize m.regs[j] = t at *
      have hl2 := part_le hB1 hlen2.out
      replace hB1 := Hid.mk hB1
      replace hW := Hid.mk hW
      replace hWr := Hid.mk hWr
      replace X1 := Hid.mk X1
      replace hs := Hid.mk hs
      replace hl2 := Hid.mk hl2
      go_wp2_with fail
      refine (region_any t sa sc base kw B1 _ (hW.out.below ((Gr.refl wr).alloc _).below) (hs.out.below (((Gr.refl wr).alloc _).below.mono hbr)) hrj hl2.out).mono ?_
      rintro x w3 ⟨rfl, hW3, hWr3⟩
      replace X1 := Hid.mk (hWr3.keep _ _ _ (by decide) (by decide) (X1.out.alloc _))
      replace hWr := Hid.mk (hWr.out.trans ((Wrote.gr ((Gr.refl wr).alloc _) hbr).trans hWr3))
      replace hW3 := Hid.mk hW3
      clear hWr3
      go_wp2_with fail
      go_roundw
      case rel => exact ⟨j + 1, _, by simp, by omega, ⟨hW3.out, by rw [← hB1.out]; simp, hWr.out, X1.out⟩⟩
      case measure => simp [intOf]; omega
    have jl : ¬ (j : Int) < m.regs.length := by omega
    rw [drop_end hlt, regsB, List.nil_append] at hB1
    have ⟨z1, p1, _⟩ := X1.at
    replace hW := Hid.mk hW
    replace hWr := Hid.mk hWr
    replace X1 := Hid.mk X1
    replace hB1 := Hid.mk hB1
    go_wp2_with fail
    clear z1 p1
    go_loopw [44] (fun i wr => ∃ (j : Nat) (B1 : List UInt8), i = .int .i64 j ∧ j ≤ m.comps.length ∧ Hid (WBox wr base kw B1 ∧ B1 ++ (compsB (m.comps.drop j) ++ gatesB m.gates) = T ∧ Wrote base w wr ∧ Box wr w.heap.size #[.slice ra m.regs.length rc, .slice ca m.comps.length cc, .slice ga m.gates.length gc, .int .i64 m.depth] 26)) (fun i _ => m.comps.length - (intOf i).toNat)
    case atStart => exact ⟨0, B1, rfl, by omega, ⟨hW.out, hB1.out, hWr.out, X1.out⟩⟩
    case round =>
      clear hW hWr X1 hB1 hlt jl hj
      obtain ⟨j, B1, rfl, hj, ⟨hW, hB1, hWr, X1⟩⟩ := hrel
      have hbr := hW.lt
      by_cases hlt : j < m.comps.length
      · have jl : (j : Int) < m.comps.length := by omega
        obtain ⟨b, off, sa, sc, ka, kc, rfl, hb, hb2, c0, c1, hs, hk⟩ := (hm.out.below hWr.below).comps j hlt
        have hrj := r4.out m.comps[j] (List.getElem_mem hlt)
        rw [compsB_at hlt, List.append_assoc] at hB1
        generalize m.comps[j] = t at *
        have hl2 := part_le hB1 hlen2.out
        replace hB1 := Hid.mk hB1
        replace hW := Hid.mk hW
        replace hWr := Hid.mk hWr
        replace X1 := Hid.mk X1
        replace hs := Hid.mk hs
        replace hk := Hid.mk hk
        replace hl2 := Hid.mk hl2
        go_wp2_with fail
        refine (comp_any t sa ka sc kc base kw B1 _ ((ht.out.below hWr.out.below h2).gr ((Gr.refl wr).alloc _)) h2 (hW.out.below ((Gr.refl wr).alloc _).below) (hs.out.below (((Gr.refl wr).alloc _).below.mono hbr)) (hk.out.below (((Gr.refl wr).alloc _).below.mono hbr)) hrj hl2.out).mono ?_
        rintro x w3 ⟨rfl, hW3, hWr3⟩
        replace X1 := Hid.mk (hWr3.keep _ _ _ (by decide) (by decide) (X1.out.alloc _))
        replace hWr := Hid.mk (hWr.out.trans ((Wrote.gr ((Gr.refl wr).alloc _) hbr).trans hWr3))
        replace hW3 := Hid.mk hW3
        clear hWr3
        go_wp2_with fail
        go_roundw
        case rel => exact ⟨j + 1, _, by simp, by omega, ⟨hW3.out, by rw [← hB1.out]; simp, hWr.out, X1.out⟩⟩
        case measure => simp [intOf]; omega
      have jl : ¬ (j : Int) < m.comps.length := by omega
      rw [drop_end hlt, compsB, List.nil_append] at hB1
      have ⟨z1, p1, _⟩ := X1.at
      replace hW := Hid.mk hW
      replace hWr := Hid.mk hWr
      replace X1 := Hid.mk X1
      replace hB1 := Hid.mk hB1
      go_wp2_with fail
      clear z1 p1
      go_loopw [55] (fun i wr => ∃ (j : Nat) (B1 : List UInt8), i = .int .i64 j ∧ j ≤ m.gates.length ∧ Hid (WBox wr base kw B1 ∧ B1 ++ gatesB (m.gates.drop j) = T ∧ Wrote base w wr)) (fun i _ => m.gates.length - (intOf i).toNat)
      case atStart => exact ⟨0, B1, rfl, by omega, ⟨hW.out, hB1.out, hWr.out⟩⟩
      case round =>
        clear hW hWr X1 hB1 hlt jl hj
        obtain ⟨j, B1, rfl, hj, ⟨hW, hB1, hWr⟩⟩ := hrel
        have hbr := hW.lt
        by_cases hlt : j < m.gates.length
        · have jl : (j : Int) < m.gates.length := by omega
          obtain ⟨b, off, xa, xc, ya, yc, rfl, hb, hb2, c0, c1, c2, c3, hx, hy⟩ := (hm.out.below hWr.below).gates j hlt
          have hrj := r6.out m.gates[j] (List.getElem_mem hlt)
          rw [gatesB_at hlt] at hB1
          generalize m.gates[j] = t at *
          have hl2 := part_le hB1 hlen2.out
          replace hB1 := Hid.mk hB1
          replace hW := Hid.mk hW
          replace hWr := Hid.mk hWr
          replace hx := Hid.mk hx
          replace hy := Hid.mk hy
          replace hl2 := Hid.mk hl2
          go_wp2_with fail
          refine (gate_any t xa ya xc yc base kw B1 _ (hW.out.below ((Gr.refl wr).alloc _).below) (hx.out.below (((Gr.refl wr).alloc _).below.mono hbr)) (hy.out.below (((Gr.refl wr).alloc _).below.mono hbr)) hrj hl2.out).mono ?_
          rintro x w3 ⟨rfl, hW3, hWr3⟩
          replace hWr := Hid.mk (hWr.out.trans ((Wrote.gr ((Gr.refl wr).alloc _) hbr).trans hWr3))
          replace hW3 := Hid.mk hW3
          clear hWr3
          go_wp2_with fail
          go_roundw
          case rel => exact ⟨j + 1, _, by simp, by omega, ⟨hW3.out, by rw [← hB1.out]; simp, hWr.out⟩⟩
          case measure => simp [intOf]; omega
        have jl : ¬ (j : Int) < m.gates.length := by omega
        rw [drop_end hlt, gatesB, List.append_nil] at hB1
        replace hW := Hid.mk hW
        replace hWr := Hid.mk hWr
        replace hB1 := Hid.mk hB1
        go_wp2_with fail
        simp [bodyPost, results, Tryz.results18, go_sem]
        exact ⟨by rw [← hB1.out]; exact hW.out, hWr.out⟩
end Go.Proofs.YtmmakknhaacplaaGreatDoor


/-
  Stage 4, image: hasInst, countsRight.
-/
namespace Go.Proofs.YtmmakknhaacplaaGreatDoor
open Go.RowKit

set_option maxHeartbeats 1000000 in
theorem hasInst_any (m : PImg) (c e : Int) (ra ca ga : Option Addr) (rn rc cc gn gc : Nat) (w : World) (hc : CompIn w.heap.size w ca m.comps) :
    Calls Tryz.prog 31 #[.agg #[.slice ra rn rc, .slice ca m.comps.length cc, .slice ga gn gc, .int .i64 m.depth], .int .i64 c, .int .i64 e] w fun x w' => x = .returned (.bool (hasI m.comps c e)) ∧ Gr w w' := by
  unfold hasI
  by_cases h : 0 ≤ c ∧ c < m.comps.length ∧ 0 ≤ e
  · obtain ⟨h0, h1, h2⟩ := h
    rw [if_pos ⟨h0, h1, h2⟩]
    obtain ⟨j, rfl⟩ : ∃ j : Nat, c = j := ⟨c.toNat, by omega⟩
    have hlt : j < m.comps.length := by omega
    rw [Int.toNat_natCast, List.getElem?_eq_getElem hlt]
    obtain ⟨b, off, ra', rc', ka, kc, rfl, h3, h4, c0, c1, _, _⟩ := hc j hlt
    generalize m.comps[j] = k at *
    simp only []
    have L1 := fun o => World.cell?_alloc_past (w := w) o b (off + j * 2 + 1) h4
    go_enter Tryz.func31, Tryz.ntmps31
    go_wp2
    all_goals
      go_ret
      refine ⟨ret_bool (by simp_all), ?_⟩
      (with_reducible repeat (first | exact Gr.refl _ | refine Gr.alloc ?_ _ | refine Gr.grow ?_ _ | refine Gr.drew ?_ | refine Gr.setCell ?_ _ _ _ (gr_size ?_)))
  · rw [if_neg h]
    clear hc
    go_enter Tryz.func31, Tryz.ntmps31
    go_wp2
    all_goals
      go_ret
      exact ⟨rfl, (Gr.refl w).alloc _⟩
set_option maxHeartbeats 1000000 in
theorem countsRight_any (d : Int) (ra ca ga : Option Addr) (rn rc cn cc gn gc : Nat) (w : World) :
    Calls Tryz.prog 32 #[.agg #[.slice ra rn rc, .slice ca cn cc, .slice ga gn gc, .int .i64 d]] w fun x w' => x = .returned (.bool (countsB rn cn gn d)) ∧ Gr w w' := by
  go_enter Tryz.func32, Tryz.ntmps32
  go_wp2
  all_goals
    go_ret
    refine ⟨ret_bool (by unfold countsB; simp_all <;> omega), ?_⟩
    (with_reducible repeat (first | exact Gr.refl _ | refine Gr.alloc ?_ _ | refine Gr.grow ?_ _ | refine Gr.drew ?_ | refine Gr.setCell ?_ _ _ _ (gr_size ?_)))
end Go.Proofs.YtmmakknhaacplaaGreatDoor


/-
  Stage 4, image: regionsRight.
-/
namespace Go.Proofs.YtmmakknhaacplaaGreatDoor
open Go.RowKit

theorem regsR_at {L : List PReg} {j : Nat} {f : Int} (h : j < L.length) : regsR (L.drop j) f = if placeB L[j].b L[j].n f && contentB L[j].n L[j].data L[j].slots.length then (if slotsR L[j].slots then regsR (L.drop (j + 1)) (L[j].b + L[j].n) else 45) else 43 := by
  rw [List.drop_eq_getElem_cons h, regsR]
theorem slotsR_at {L : List PSlot} {j : Nat} (h : j < L.length) : slotsR (L.drop j) = (L[j].right && slotsR (L.drop (j + 1))) := by
  rw [List.drop_eq_getElem_cons h, slotsR]
theorem placeB_in {b n f : Int} (h : placeB b n f = true) : b < 65536 ∧ n ≤ 65536 - b := by
  simp [placeB] at h; omega
set_option maxHeartbeats 2000000 in
theorem regionsRight_any (L : List PReg) (c : Nat) (a : Option Addr) (w : World) (hL : RegIn w.heap.size w a L) (hr : ∀ r ∈ L, r.Rng) (hl : L.length ≤ maxG) :
    Calls Tryz.prog 33 #[.slice a L.length c] w fun x w' => x = .returned (.int .i64 (regsR L 0)) ∧ Gr w w' := by
  replace hL := Hid.mk hL
  replace hr := Hid.mk hr
  have hl1 : L.length ≤ 140737488355328 := hl
  go_enter Tryz.func33, Tryz.ntmps33
  go_wp2_with fail
  go_loopw [3, 10] (fun v i wr => ∃ (j : Nat) (f : Int), v = .int .u64 f ∧ i = .int .i64 j ∧ j ≤ L.length ∧ Hid (regsR (L.drop j) f = regsR L 0 ∧ Gr w wr)) (fun _ i _ => L.length - (intOf i).toNat)
  case atStart => exact ⟨0, 0, rfl, rfl, by omega, ⟨rfl, Gr.refl w⟩⟩
  case round =>
    obtain ⟨j, f, rfl, rfl, hj, ⟨hf, hG⟩⟩ := hrel
    by_cases hlt : j < L.length
    · have jl : (j : Int) < L.length := by omega
      obtain ⟨b, off, sa, sc, rfl, hb, hb2, c0, c1, c2, c3, hs⟩ := hL.out.below hG.below j hlt
      obtain ⟨⟨rb0, rb1⟩, ⟨rn0, rn1⟩, hd, hsl, _⟩ := hr.out L[j] (List.getElem_mem hlt)
      rw [regsR_at hlt] at hf
      have hp := fun w => placeRight_any L[j].b L[j].n f (str L[j].data) sa L[j].slots.length sc w ⟨rb0, rb1⟩ ⟨rn0, rn1⟩
      have hcn := fun w => contentRight_any L[j].b L[j].n L[j].data sa L[j].slots.length sc w (by unfold maxG at hd; omega) (by unfold maxG at hsl; omega)
      have hpi := placeB_in (b := L[j].b) (n := L[j].n) (f := f)
      generalize L[j] = r at *
      generalize placeB r.b r.n f = q1 at *
      generalize contentB r.n r.data r.slots.length = q2 at *
      have hsl1 : r.slots.length ≤ 140737488355328 := hsl
      clear hsl hd
      replace hf := Hid.mk hf
      replace hs := Hid.mk hs
      replace hG := Hid.mk hG
      cases q1
      · go_wp2_with fail
        refine (hp _).mono ?_
        rintro x w2 ⟨rfl, hG2⟩
        replace hG := Hid.mk (hG.out.trans hG2.of_alloc)
        clear hG2
        go_wp2_with fail
        go_ret
        exact ⟨retI (by rw [← hf.out]; simp), hG.out⟩
      obtain ⟨p1, p2⟩ := hpi rfl
      clear hpi
      have hw : IntKind.u64.wrap (r.b + r.n) = r.b + r.n := by rw [IntKind.wrap_u64]; omega
      go_wp2_with fail
      refine (hp _).mono ?_
      rintro x w2 ⟨rfl, hG2⟩
      have A1 : At w2 wr.heap.size #[.int .u64 r.b, .int .u64 r.n, .string (str r.data), .slice sa r.slots.length sc] := (At.new wr _ _).gr hG2
      replace hs := Hid.mk (hs.out.below (w1 := w2) (hG2.of_alloc.below.mono hG.out.below.size))
      replace hG := Hid.mk (hG.out.trans hG2.of_alloc)
      clear hG2 hp c0 c1 c2 c3
      have ⟨z1, q1, _⟩ := A1
      go_wp2_with fail
      refine (hcn _).mono ?_
      rintro x w3 ⟨rfl, hG2⟩
      clear z1 q1
      replace A1 := A1.gr hG2
      replace hs := Hid.mk (hs.out.below (w1 := w3) (hG2.below.mono hG.out.below.size))
      replace hG := Hid.mk (hG.out.trans hG2)
      clear hG2 hcn
      have ⟨z1, q1, _⟩ := A1
      cases q2
      · go_wp2_with fail
        go_ret
        exact ⟨retI (by rw [← hf.out]; simp), hG.out⟩
      go_wp2_with fail
      clear z1 q1
      go_loopw [26] (fun i ws => ∃ k : Nat, i = .int .i64 k ∧ k ≤ r.slots.length ∧ Hid (slotsR (r.slots.drop k) = slotsR r.slots ∧ Gr w ws ∧ At ws wr.heap.size #[.int .u64 r.b, .int .u64 r.n, .string (str r.data), .slice sa r.slots.length sc] ∧ FIn 8 PSlot.vals w.heap.size ws sa r.slots)) (fun i _ => r.slots.length - (intOf i).toNat)
      case atStart => exact ⟨0, rfl, by omega, ⟨rfl, hG.out, A1, hs.out⟩⟩
      case round =>
        rename_i ws _ _ _ _ _ _ _
        clear A1 hs hG
        obtain ⟨k, rfl, hk, ⟨hsf, hG, A1, hs⟩⟩ := hrel
        by_cases hkl : k < r.slots.length
        · have kl : (k : Int) < r.slots.length := by omega
          obtain ⟨b2, off2, rfl, hb3, hb4, hcc⟩ := hs k hkl
          obtain ⟨d0, d1, d2, d3, d4, d5, d6, d7⟩ := slot_cells hcc
          clear hcc
          rw [slotsR_at hkl] at hsf
          have ht := slotRight_any r.slots[k]
          generalize r.slots[k] = t at *
          generalize t.right = q3 at *
          replace hsf := Hid.mk hsf
          replace hs := Hid.mk hs
          replace hG := Hid.mk hG
          cases q3
          · go_wp2_with fail
            refine (ht _).mono ?_
            rintro x w5 ⟨rfl, hG2⟩
            replace hG := Hid.mk (hG.out.trans hG2.of_alloc)
            clear hG2
            go_wp2_with fail
            go_ret
            exact ⟨retI (by rw [← hf.out, ← hsf.out]; simp), hG.out⟩
          · go_wp2_with fail
            refine (ht _).mono ?_
            rintro x w5 ⟨rfl, hG2⟩
            replace A1 := A1.gr hG2.of_alloc
            replace hs := Hid.mk (hs.out.below (w1 := w5) (hG2.of_alloc.below.mono hG.out.below.size))
            replace hG := Hid.mk (hG.out.trans hG2.of_alloc)
            clear hG2
            go_wp2_with fail
            go_roundw
            case rel => exact ⟨k + 1, by simp, by omega, ⟨by rw [← hsf.out]; simp, hG.out, A1, hs.out⟩⟩
            case measure => simp [intOf]; omega
        · have kl : ¬ (k : Int) < r.slots.length := by omega
          rw [drop_end hkl] at hsf
          replace hsf := Hid.mk hsf
          replace hG := Hid.mk hG
          have ⟨z1, q1, _⟩ := A1
          go_wp2_with fail
          go_roundw
          case rel => exact ⟨j + 1, r.b + r.n, rfl, by simp, by omega, ⟨by rw [← hf.out, ← hsf.out]; simp [slotsR], hG.out⟩⟩
          case measure => simp [intOf]; omega
    · have jl : ¬ (j : Int) < L.length := by omega
      rw [drop_end hlt, regsR] at hf
      replace hf := Hid.mk hf
      replace hG := Hid.mk hG
      go_wp2_with fail
      go_ret
      exact ⟨retI hf.out, hG.out⟩
end Go.Proofs.YtmmakknhaacplaaGreatDoor
