import Derived.Test.YtdmkedpnkejpbaaDoorP12
/-
  Stage 4, image: the writer's comp.
-/
namespace Go.Proofs.YtdmkedpnkejpbaaDoor
open Go.RowKit

def rootB (k : PRoot) : List UInt8 := putB 1 [u64 k.r] ++ putB 8 [k.b, k.e, k.c] ++ putB 1 [k.p, u64 k.s]
def rootsB : List PRoot → List UInt8
  | [] => []
  | k :: l => rootB k ++ rootsB l
theorem rootsB_at {L : List PRoot} {j : Nat} (h : j < L.length) : rootsB (L.drop j) = rootB L[j] ++ rootsB (L.drop (j + 1)) := by
  rw [List.drop_eq_getElem_cons h, rootsB]
def codeBy (L : List Ins) : List UInt8 := putB 2 [(L.length : Int)] ++ (encF L 0 []).1
def compB (c : PComp) : List UInt8 := putB 1 [(c.roots.length : Int)] ++ rootsB c.roots ++ codeBy c.code
theorem Wrote.bel {base : Nat} {w w' : World} (h : Below w.heap.size w w') (hb : base ≤ w.heap.size) : Wrote base w w' := ⟨h.mono hb, fun _ _ _ _ _ hb => hb.below h hb.lt⟩
theorem small_G {n : Nat} (h : n ≤ maxI) : n ≤ maxG := by unfold maxI at h; unfold maxG; omega
set_option maxHeartbeats 2000000 in
theorem comp_any (c : PComp) (ra ka : Option Addr) (rc kc : Nat) (base kw : Nat) (B : List UInt8) (w : World) (ht : TabIn w) (h2 : 2 ≤ base) (h : WBox w base kw B) (hs : FIn 6 PRoot.vals base w ra c.roots) (hk : LIn base w ka c.code) (hr : c.Rng) (hlen : B.length + (compB c).length ≤ 140737488355328) :
    Calls Tryd.prog 48 #[.pointer (some ⟨kw, 0, none⟩), .agg #[.slice ra c.roots.length rc, .slice ka c.code.length kc]] w fun x w' => x = .returned (.tuple #[]) ∧ WBox w' base kw (B ++ compB c) ∧ Wrote base w w' := by
  obtain ⟨r1, r2, r3, r4⟩ := hr
  have hbs := h.lt
  have e1 := len_w r1
  have e2 := len_w (small_G r2)
  have u1 := len_in r1
  have u2 := len_in (small_G r2)
  have hl1 : c.roots.length ≤ 140737488355328 := r1
  have hlen2 := hlen
  unfold compB at hlen2
  simp only [List.length_append, putB_length, List.length_cons, List.length_nil] at hlen2
  generalize hT : B ++ compB c = T at *
  replace hT := Hid.mk hT
  replace hs := Hid.mk hs
  replace hk := Hid.mk hk
  replace r4 := Hid.mk r4
  replace hlen := Hid.mk hlen
  replace hlen2 := Hid.mk hlen2
  replace ht := Hid.mk ht
  go_enter Tryd.func48, Tryd.ntmps48
  go_wp2_with fail
  refine (put_any 1 [(c.roots.length : Int)] (w.heap.size + 1) 1 base kw B _ (h.below (((Gr.refl w).alloc _).alloc _).below) (Box.next _ _ _ _) (by simpa using u1) (by omega) (by have := hlen2.out; simp; omega) (by simp)).mono ?_
  rintro x w1 ⟨rfl, hW, hWr⟩
  have X1 := hWr.keep _ _ _ (by decide) (by decide) ((Box.new w #[.slice ra c.roots.length rc, .slice ka c.code.length kc] 57).alloc _)
  replace hWr := (Wrote.gr (((Gr.refl w).alloc _).alloc _) hbs).trans hWr
  have hs1 := hWr.size
  clear h
  have ⟨z1, p1, _⟩ := X1.at
  replace X1 := Hid.mk X1
  go_wp2_with fail
  clear z1 p1
  go_loopw [19] (fun i wr => ∃ (j : Nat) (B1 : List UInt8), i = .int .i64 j ∧ j ≤ c.roots.length ∧ Hid (WBox wr base kw B1 ∧ B1 ++ rootsB (c.roots.drop j) ++ codeBy c.code = T ∧ Wrote base w wr ∧ Box wr w.heap.size #[.slice ra c.roots.length rc, .slice ka c.code.length kc] 57)) (fun i _ => c.roots.length - (intOf i).toNat)
  case atStart => exact ⟨0, _, rfl, by omega, ⟨hW, by rw [← hT.out]; simp [compB], hWr, X1.out⟩⟩
  case round =>
    clear hW hWr X1
    obtain ⟨j, B1, rfl, hj, ⟨hW, hB1, hWr, X1⟩⟩ := hrel
    have hbr := hW.lt
    by_cases hlt : j < c.roots.length
    · have jl : (j : Int) < c.roots.length := by omega
      obtain ⟨b, off, rfl, hb, hb2, hc⟩ := hs.out.below hWr.below j hlt
      obtain ⟨c0, c1, c2, c3, c4, c5⟩ := root_cells hc
      clear hc
      obtain ⟨_, t2, t3, t4, t5, _⟩ := r4.out c.roots[j] (List.getElem_mem hlt)
      rw [rootsB_at hlt] at hB1
      generalize c.roots[j] = t at *
      unfold rootB at hB1
      have e3 := wrap_u64' t.r
      have e4 := wrap_u64' t.s
      have e5 := u64_self (b8_w t5)
      have u3 := u64_in t.r
      have u4 := u64_in t.s
      generalize u64 t.r = tr at *
      generalize u64 t.s = ts at *
      have hl2 : B1.length + 27 ≤ 140737488355328 := by
        have h1 := congrArg List.length hB1
        have h2 := congrArg List.length hT.out
        have h3 := hlen.out
        simp only [List.length_append, putB_length, List.length_cons, List.length_nil] at h1 h2
        omega
      replace hB1 := Hid.mk hB1
      replace hW := Hid.mk hW
      replace hWr := Hid.mk hWr
      replace hl2 := Hid.mk hl2
      replace X1 := Hid.mk X1
      go_wp2_with fail
      refine (put_any 1 [tr] (wr.heap.size + 1) 1 base kw B1 _ (hW.out.below (((Gr.refl wr).alloc _).alloc _).below) (Box.next _ _ _ _) (by simpa using u3) (by omega) (by have := hl2.out; simp; omega) (by simp)).mono ?_
      rintro x w3 ⟨rfl, hW2, hWr2⟩
      have X2 := Hid.mk (hWr2.keep _ _ _ (by decide) (by decide) ((Box.new wr #[.int .i64 t.r, .int .u64 t.b, .int .u64 t.e, .int .u64 t.c, .int .u8 t.p, .int .i64 t.s] 93).alloc _))
      replace X1 := Hid.mk (hWr2.keep _ _ _ (by decide) (by decide) ((X1.out.alloc _).alloc _))
      replace hWr2 := (Wrote.gr (((Gr.refl wr).alloc _).alloc _) hbr).trans hWr2
      have hs3 : base ≤ w3.heap.size := Nat.le_trans hbr hWr2.size
      replace hWr := Hid.mk (hWr.out.trans hWr2)
      replace hW2 := Hid.mk hW2
      clear hWr2 c0 c1 c2 c3 c4 c5 hW
      have ⟨z1, p1, _⟩ := X2.out.at
      go_wp2_with fail
      refine (put_any 8 [t.b, t.e, t.c] w3.heap.size 3 base kw _ _ (hW2.out.below ((Gr.refl w3).alloc _).below) (Box.new _ _ _) (by simp; exact ⟨t2, t3, t4⟩) (by omega) (by have := hl2.out; simp [putB_length]; omega) (by simp)).mono ?_
      rintro x w4 ⟨rfl, hW3, hWr3⟩
      clear z1 p1
      replace X1 := Hid.mk (hWr3.keep _ _ _ (by decide) (by decide) (X1.out.alloc _))
      replace X2 := Hid.mk (hWr3.keep _ _ _ (by decide) (by decide) (X2.out.alloc _))
      replace hWr3 := (Wrote.gr ((Gr.refl w3).alloc _) hs3).trans hWr3
      have hs4 : base ≤ w4.heap.size := Nat.le_trans hs3 hWr3.size
      replace hWr := Hid.mk (hWr.out.trans hWr3)
      replace hW3 := Hid.mk hW3
      clear hWr3 hW2
      have ⟨z1, p1, _⟩ := X2.out.at
      go_wp2_with fail
      refine (put_any 1 [t.p, ts] w4.heap.size 2 base kw _ _ (hW3.out.below ((Gr.refl w4).alloc _).below) (Box.new _ _ _) (by simp; exact ⟨b8_w t5, u4⟩) (by omega) (by have := hl2.out; simp [putB_length]; omega) (by simp)).mono ?_
      rintro x w5 ⟨rfl, hW4, hWr3⟩
      clear z1 p1 X2
      replace X1 := Hid.mk (hWr3.keep _ _ _ (by decide) (by decide) (X1.out.alloc _))
      replace hWr := Hid.mk (hWr.out.trans ((Wrote.gr ((Gr.refl w4).alloc _) hs4).trans hWr3))
      replace hW4 := Hid.mk hW4
      clear hWr3 hW3
      go_wp2_with fail
      go_roundw
      case rel => exact ⟨j + 1, _, by simp, by omega, ⟨hW4.out, by rw [← hB1.out]; simp, hWr.out, X1.out⟩⟩
      case measure => simp [intOf]; omega
    · have jl : ¬ (j : Int) < c.roots.length := by omega
      rw [drop_end hlt, rootsB, List.append_nil] at hB1
      unfold codeBy at hB1
      have hl2 : B1.length + 2 + (encF c.code 0 []).1.length ≤ 140737488355328 := by
        have h1 := congrArg List.length hB1
        have h2 := congrArg List.length hT.out
        have h3 := hlen.out
        simp only [List.length_append, putB_length, List.length_cons, List.length_nil] at h1 h2
        omega
      have ⟨z1, p1, _⟩ := X1.at
      replace hW := Hid.mk hW
      replace hWr := Hid.mk hWr
      replace hB1 := Hid.mk hB1
      replace X1 := Hid.mk X1
      replace hl2 := Hid.mk hl2
      go_wp2_with fail
      refine (put_any 2 [(c.code.length : Int)] wr.heap.size 1 base kw _ _ (hW.out.below ((Gr.refl wr).alloc _).below) (Box.new _ _ _) (by simpa using u2) (by omega) (by have := hl2.out; simp; omega) (by simp)).mono ?_
      rintro x w3 ⟨rfl, hW3, hWr3⟩
      clear z1 p1
      replace X1 := Hid.mk (hWr3.keep _ _ _ (by decide) (by decide) (X1.out.alloc _))
      replace hWr3 := (Wrote.gr ((Gr.refl wr).alloc _) hbr).trans hWr3
      have hs3 : base ≤ w3.heap.size := Nat.le_trans hbr hWr3.size
      replace hWr := Hid.mk (hWr.out.trans hWr3)
      replace hW3 := Hid.mk hW3
      clear hWr3 hW
      have ⟨z1, p1, _⟩ := X1.out.at
      go_wp2_with fail
      refine (Encode_any c.code kc ka w3 (ht.out.below hWr.out.below h2) ((hk.out.below hWr.out.below).mono hs3) r3 r2).mono ?_
      rintro x w4 ⟨rfl, hBe⟩
      clear z1 p1
      replace hW3 := Hid.mk (hW3.out.below hBe)
      replace hWr := Hid.mk (hWr.out.trans (Wrote.bel hBe hs3))
      clear hBe X1
      go_wp2_with fail
      refine (text_any' (encF c.code 0 []).1 base kw _ _ hW3.out (by have := hl2.out; simp [putB_length]; omega)).mono ?_
      rintro x w5 ⟨rfl, hW4, hWr4⟩
      replace hWr := Hid.mk (hWr.out.trans hWr4)
      replace hW4 := Hid.mk hW4
      clear hWr4 hW3
      go_wp2_with fail
      simp [bodyPost, results, Tryd.results48, go_sem]
      exact ⟨by have h1 := hW4.out; have h2 := hB1.out; simp only [List.append_assoc] at h1 h2; rw [h2] at h1; exact h1, hWr.out⟩
end Go.Proofs.YtdmkedpnkejpbaaDoor


/-
  Stage 4, image: the writer's image.
-/
namespace Go.Proofs.YtdmkedpnkejpbaaDoor
open Go.RowKit

def magicB : List UInt8 := [80, 65, 68, 68, 75, 49]
def regsB : List PReg → List UInt8
  | [] => []
  | r :: l => regB r ++ regsB l
def compsB : List PComp → List UInt8
  | [] => []
  | c :: l => compB c ++ compsB l
def gatesB : List PGate → List UInt8
  | [] => []
  | g :: l => gateB g ++ gatesB l
theorem regsB_at {L : List PReg} {j : Nat} (h : j < L.length) : regsB (L.drop j) = regB L[j] ++ regsB (L.drop (j + 1)) := by
  rw [List.drop_eq_getElem_cons h, regsB]
theorem compsB_at {L : List PComp} {j : Nat} (h : j < L.length) : compsB (L.drop j) = compB L[j] ++ compsB (L.drop (j + 1)) := by
  rw [List.drop_eq_getElem_cons h, compsB]
theorem gatesB_at {L : List PGate} {j : Nat} (h : j < L.length) : gatesB (L.drop j) = gateB L[j] ++ gatesB (L.drop (j + 1)) := by
  rw [List.drop_eq_getElem_cons h, gatesB]
/-- A program's bytes. -/
def imgB (m : PImg) : List UInt8 := magicB ++ putB 1 [u64 m.depth, (m.regs.length : Int), (m.comps.length : Int), (m.gates.length : Int)] ++ regsB m.regs ++ compsB m.comps ++ gatesB m.gates
theorem part_le {A B C T : List UInt8} {n : Nat} (h : A ++ (B ++ C) = T) (hT : T.length ≤ n) : A.length + B.length ≤ n := by
  have h1 := congrArg List.length h
  simp only [List.length_append] at h1
  omega
set_option maxHeartbeats 4000000 in
theorem image_any (m : PImg) (ra ca ga : Option Addr) (rc cc gc : Nat) (base kw : Nat) (w : World) (ht : TabIn w) (h2 : 2 ≤ base) (h : WBox w base kw []) (hm : ImgIn base w ra ca ga m) (hr : m.Rng) (hlen : (imgB m).length ≤ 140737488355328) :
    Calls Tryd.prog 23 #[.pointer (some ⟨kw, 0, none⟩), .agg #[.slice ra m.regs.length rc, .slice ca m.comps.length cc, .slice ga m.gates.length gc, .int .i64 m.depth]] w fun x w' => x = .returned (.tuple #[]) ∧ WBox w' base kw (imgB m) ∧ Wrote base w w' := by
  obtain ⟨⟨r1, r2⟩, ⟨r3, r4⟩, ⟨r5, r6⟩, r7⟩ := hr
  have hbs := h.lt
  have e1 := wrap_u64' m.depth
  have e2 := len_w r1
  have e3 := len_w r3
  have e4 := len_w r5
  have u1 := u64_in m.depth
  have u2 := len_in r1
  have u3 := len_in r3
  have u4 := len_in r5
  have hl1 : m.regs.length ≤ 140737488355328 := r1
  have hl2 : m.comps.length ≤ 140737488355328 := r3
  have hl3 : m.gates.length ≤ 140737488355328 := r5
  have hlen2 := hlen
  generalize hT : imgB m = T at hlen2 ⊢
  unfold imgB at hT hlen
  generalize u64 m.depth = dd at *
  simp only [List.length_append, putB_length, List.length_cons, List.length_nil] at hlen
  replace hT := Hid.mk hT
  replace hm := Hid.mk hm
  replace r2 := Hid.mk r2
  replace r4 := Hid.mk r4
  replace r6 := Hid.mk r6
  replace hlen := Hid.mk hlen
  replace hlen2 := Hid.mk hlen2
  replace ht := Hid.mk ht
  clear r1 r3 r5
  go_enter Tryd.func23, Tryd.ntmps23
  go_wp2_with fail
  refine (text_any' magicB base kw [] _ (h.below ((Gr.refl w).alloc _).below) (by simp [magicB])).mono ?_
  rintro x w1 ⟨rfl, hW, hWr⟩
  have X1 := hWr.keep _ _ _ (by decide) (by decide) (Box.new w #[.slice ra m.regs.length rc, .slice ca m.comps.length cc, .slice ga m.gates.length gc, .int .i64 m.depth] 27)
  replace hWr := (Wrote.gr ((Gr.refl w).alloc _) hbs).trans hWr
  have hs1 := hWr.size
  clear h
  have ⟨z1, p1, _⟩ := X1.at
  replace X1 := Hid.mk X1
  go_wp2_with fail
  refine (put_any 1 [dd, (m.regs.length : Int), (m.comps.length : Int), (m.gates.length : Int)] w1.heap.size 4 base kw _ _ (hW.below ((Gr.refl w1).alloc _).below) (Box.new _ _ _) (by simp; exact ⟨u1, u2, u3, u4⟩) (by omega) (by have := hlen.out; simp; omega) (by simp)).mono ?_
  rintro x w2 ⟨rfl, hW2, hWr2⟩
  clear z1 p1 hW
  replace X1 := Hid.mk (hWr2.keep _ _ _ (by decide) (by decide) (X1.out.alloc _))
  replace hWr := hWr.trans ((Wrote.gr ((Gr.refl w1).alloc _) (by omega)).trans hWr2)
  clear hWr2
  have ⟨z1, p1, _⟩ := X1.out.at
  go_wp2_with fail
  clear z1 p1
  go_loopw [33] (fun i wr => ∃ (j : Nat) (B1 : List UInt8), i = .int .i64 j ∧ j ≤ m.regs.length ∧ Hid (WBox wr base kw B1 ∧ B1 ++ (regsB (m.regs.drop j) ++ (compsB m.comps ++ gatesB m.gates)) = T ∧ Wrote base w wr ∧ Box wr w.heap.size #[.slice ra m.regs.length rc, .slice ca m.comps.length cc, .slice ga m.gates.length gc, .int .i64 m.depth] 27)) (fun i _ => m.regs.length - (intOf i).toNat)
  case atStart => exact ⟨0, _, rfl, by omega, ⟨hW2, by rw [← hT.out]; simp, hWr, X1.out⟩⟩
  case round =>
    clear hW2 hWr X1
    obtain ⟨j, B1, rfl, hj, ⟨hW, hB1, hWr, X1⟩⟩ := hrel
    have hbr := hW.lt
    by_cases hlt : j < m.regs.length
    · have jl : (j : Int) < m.regs.length := by omega
      obtain ⟨b, off, sa, sc, rfl, hb, hb2, c0, c1, c2, c3, hs⟩ := (hm.out.below hWr.below).regs j hlt
      have hrj := r2.out m.regs[j] (List.getElem_mem hlt)
      rw [regsB_at hlt, List.append_assoc] at hB1
      generalize m.regs[j] = t at *
      have hl2 := part_le hB1 hlen2.out
      replace hB1 := Hid.mk hB1
      replace hW := Hid.mk hW
      replace hWr := Hid.mk hWr
      replace X1 := Hid.mk X1
      replace hs := Hid.mk hs
      replace hl2 := Hid.mk hl2
      go_wp2_with fail
      refine (region_any t sa sc base kw B1 _ (hW.out.below ((Gr.refl wr).alloc _).below) (hs.out.below (((Gr.refl wr).alloc _).below.mono hbr)) hrj hl2.out).mono ?_
      rintro x w3 ⟨rfl, hW3, hWr3⟩
      replace X1 := Hid.mk (hWr3.keep _ _ _ (by decide) (by decide) (X1.out.alloc _))
      replace hWr := Hid.mk (hWr.out.trans ((Wrote.gr ((Gr.refl wr).alloc _) hbr).trans hWr3))
      replace hW3 := Hid.mk hW3
      clear hWr3
      go_wp2_with fail
      go_roundw
      case rel => exact ⟨j + 1, _, by simp, by omega, ⟨hW3.out, by rw [← hB1.out]; simp, hWr.out, X1.out⟩⟩
      case measure => simp [intOf]; omega
    have jl : ¬ (j : Int) < m.regs.length := by omega
    rw [drop_end hlt, regsB, List.nil_append] at hB1
    have ⟨z1, p1, _⟩ := X1.at
    replace hW := Hid.mk hW
    replace hWr := Hid.mk hWr
    replace X1 := Hid.mk X1
    replace hB1 := Hid.mk hB1
    go_wp2_with fail
    clear z1 p1
    go_loopw [44] (fun i wr => ∃ (j : Nat) (B1 : List UInt8), i = .int .i64 j ∧ j ≤ m.comps.length ∧ Hid (WBox wr base kw B1 ∧ B1 ++ (compsB (m.comps.drop j) ++ gatesB m.gates) = T ∧ Wrote base w wr ∧ Box wr w.heap.size #[.slice ra m.regs.length rc, .slice ca m.comps.length cc, .slice ga m.gates.length gc, .int .i64 m.depth] 27)) (fun i _ => m.comps.length - (intOf i).toNat)
    case atStart => exact ⟨0, B1, rfl, by omega, ⟨hW.out, hB1.out, hWr.out, X1.out⟩⟩
    case round =>
      clear hW hWr X1 hB1 hlt jl hj
      obtain ⟨j, B1, rfl, hj, ⟨hW, hB1, hWr, X1⟩⟩ := hrel
      have hbr := hW.lt
      by_cases hlt : j < m.comps.length
      · have jl : (j : Int) < m.comps.length := by omega
        obtain ⟨b, off, sa, sc, ka, kc, rfl, hb, hb2, c0, c1, hs, hk⟩ := (hm.out.below hWr.below).comps j hlt
        have hrj := r4.out m.comps[j] (List.getElem_mem hlt)
        rw [compsB_at hlt, List.append_assoc] at hB1
        generalize m.comps[j] = t at *
        have hl2 := part_le hB1 hlen2.out
        replace hB1 := Hid.mk hB1
        replace hW := Hid.mk hW
        replace hWr := Hid.mk hWr
        replace X1 := Hid.mk X1
        replace hs := Hid.mk hs
        replace hk := Hid.mk hk
        replace hl2 := Hid.mk hl2
        go_wp2_with fail
        refine (comp_any t sa ka sc kc base kw B1 _ ((ht.out.below hWr.out.below h2).gr ((Gr.refl wr).alloc _)) h2 (hW.out.below ((Gr.refl wr).alloc _).below) (hs.out.below (((Gr.refl wr).alloc _).below.mono hbr)) (hk.out.below (((Gr.refl wr).alloc _).below.mono hbr)) hrj hl2.out).mono ?_
        rintro x w3 ⟨rfl, hW3, hWr3⟩
        replace X1 := Hid.mk (hWr3.keep _ _ _ (by decide) (by decide) (X1.out.alloc _))
        replace hWr := Hid.mk (hWr.out.trans ((Wrote.gr ((Gr.refl wr).alloc _) hbr).trans hWr3))
        replace hW3 := Hid.mk hW3
        clear hWr3
        go_wp2_with fail
        go_roundw
        case rel => exact ⟨j + 1, _, by simp, by omega, ⟨hW3.out, by rw [← hB1.out]; simp, hWr.out, X1.out⟩⟩
        case measure => simp [intOf]; omega
      have jl : ¬ (j : Int) < m.comps.length := by omega
      rw [drop_end hlt, compsB, List.nil_append] at hB1
      have ⟨z1, p1, _⟩ := X1.at
      replace hW := Hid.mk hW
      replace hWr := Hid.mk hWr
      replace X1 := Hid.mk X1
      replace hB1 := Hid.mk hB1
      go_wp2_with fail
      clear z1 p1
      go_loopw [55] (fun i wr => ∃ (j : Nat) (B1 : List UInt8), i = .int .i64 j ∧ j ≤ m.gates.length ∧ Hid (WBox wr base kw B1 ∧ B1 ++ gatesB (m.gates.drop j) = T ∧ Wrote base w wr)) (fun i _ => m.gates.length - (intOf i).toNat)
      case atStart => exact ⟨0, B1, rfl, by omega, ⟨hW.out, hB1.out, hWr.out⟩⟩
      case round =>
        clear hW hWr X1 hB1 hlt jl hj
        obtain ⟨j, B1, rfl, hj, ⟨hW, hB1, hWr⟩⟩ := hrel
        have hbr := hW.lt
        by_cases hlt : j < m.gates.length
        · have jl : (j : Int) < m.gates.length := by omega
          obtain ⟨b, off, xa, xc, ya, yc, rfl, hb, hb2, c0, c1, c2, c3, hx, hy⟩ := (hm.out.below hWr.below).gates j hlt
          have hrj := r6.out m.gates[j] (List.getElem_mem hlt)
          rw [gatesB_at hlt] at hB1
          generalize m.gates[j] = t at *
          have hl2 := part_le hB1 hlen2.out
          replace hB1 := Hid.mk hB1
          replace hW := Hid.mk hW
          replace hWr := Hid.mk hWr
          replace hx := Hid.mk hx
          replace hy := Hid.mk hy
          replace hl2 := Hid.mk hl2
          go_wp2_with fail
          refine (gate_any t xa ya xc yc base kw B1 _ (hW.out.below ((Gr.refl wr).alloc _).below) (hx.out.below (((Gr.refl wr).alloc _).below.mono hbr)) (hy.out.below (((Gr.refl wr).alloc _).below.mono hbr)) hrj hl2.out).mono ?_
          rintro x w3 ⟨rfl, hW3, hWr3⟩
          replace hWr := Hid.mk (hWr.out.trans ((Wrote.gr ((Gr.refl wr).alloc _) hbr).trans hWr3))
          replace hW3 := Hid.mk hW3
          clear hWr3
          go_wp2_with fail
          go_roundw
          case rel => exact ⟨j + 1, _, by simp, by omega, ⟨hW3.out, by rw [← hB1.out]; simp, hWr.out⟩⟩
          case measure => simp [intOf]; omega
        have jl : ¬ (j : Int) < m.gates.length := by omega
        rw [drop_end hlt, gatesB, List.append_nil] at hB1
        replace hW := Hid.mk hW
        replace hWr := Hid.mk hWr
        replace hB1 := Hid.mk hB1
        go_wp2_with fail
        simp [bodyPost, results, Tryd.results23, go_sem]
        exact ⟨by rw [← hB1.out]; exact hW.out, hWr.out⟩
end Go.Proofs.YtdmkedpnkejpbaaDoor
