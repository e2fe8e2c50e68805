/-
  Stage 4, image: the walk of the statement on a right program's memory and code.
-/
import Derived.Test.YthmfaafpdogpdaaDoorMEx
import Derived.Test.YthmfaafpdogpdaaDoorMFitsH
import Derived.Test.YthmfaafpdogpdaaDoorMCodeCap
import Derived.Test.YthmfaafpdogpdaaDoorMRight
import Derived.Test.YthmfaafpdogpdaaDoorMRegs
namespace Go.Proofs.YthmfaafpdogpdaaDoor
open Go.RowKit

theorem regs_step {L : List PReg} {j : Nat} {f : Int} (h : j < L.length) (h0 : regsR (L.drop j) f = 0) : (f ≤ L[j].b ∧ L[j].b < 65536 ∧ L[j].n ≤ 65536 - L[j].b ∧ L[j].n ≠ 0) ∧ (0 < L[j].slots.length → L[j].n = 16 * (L[j].slots.length : Int)) ∧ slotsR L[j].slots = true ∧ regsR (L.drop (j + 1)) (L[j].b + L[j].n) = 0 := by
  rw [regsR_at h] at h0
  split at h0
  case isFalse => cases h0
  rename_i hq
  split at h0
  case isFalse => cases h0
  rename_i hs
  simp only [Bool.and_eq_true] at hq
  obtain ⟨hp, hc⟩ := hq
  simp [placeB] at hp
  refine ⟨by omega, fun hk => ?_, hs, h0⟩
  unfold contentB at hc
  rw [if_pos hk] at hc
  rw [Bool.and_eq_true] at hc
  simpa using hc.2
theorem slots_step {L : List PSlot} {k : Nat} (h : k < L.length) (h0 : slotsR (L.drop k) = true) : (L[k].t.cap = true ∧ inLH L[k].t.lo L[k].t.hi L[k].c = true) ∧ slotsR (L.drop (k + 1)) = true := by
  rw [slotsR_at h, Bool.and_eq_true] at h0
  obtain ⟨h1, h2⟩ := h0
  simp only [PSlot.right, Bool.and_eq_true] at h1
  exact ⟨⟨h1.1.1, h1.2⟩, h2⟩
theorem compsR_len {gates : Int} : ∀ {L : List PComp}, compsR gates L = 0 → ∀ c ∈ L, c.code.length ≤ 400
  | [], _, c, hc => by simp at hc
  | d :: l, h, c, hc => by
    rw [compsR] at h
    split at h
    case isFalse => cases h
    split at h
    case isFalse => rename_i h1; exact absurd h h1
    rename_i h1
    rcases List.mem_cons.1 hc with rfl | hc
    · unfold codeR at h1
      split at h1
      · cases h1
      · omega
    · exact compsR_len h c hc
theorem mem_parts {m : PImg} (h : m.right = 0) : regsR m.regs 0 = 0 ∧ (∀ c ∈ m.comps, c.code.length ≤ 400) := by
  unfold PImg.right at h
  split at h
  case isFalse => cases h
  split at h
  case isFalse => rename_i h1; exact absurd h h1
  rename_i h1
  split at h
  case isFalse => rename_i h2; exact absurd h h2
  rename_i h2
  exact ⟨h1, compsR_len h2⟩
set_option maxRecDepth 10000 in
set_option maxHeartbeats 4000000 in
theorem walk_ImageMemory (m : PImg) (ra ca ga : Option Addr) (rc cc gc : Nat) (w : World) (ht : TabIn w) (hm : ImgIn w.heap.size w ra ca ga m) (hr : m.Rng) :
    Calls Tryd.prog 5 #[.agg #[.slice ra m.regs.length rc, .slice ca m.comps.length cc, .slice ga m.gates.length gc, .int .i64 m.depth]] w fun x w' => x = .returned (.bool true) ∧ Below w.heap.size w w' := by
  have hE := fun W (h0 : TabIn W) => examples_any W h0
  have hR := fun W (h0 : TabIn W) (h1 : ImgIn W.heap.size W ra ca ga m) => imgRight_any m ra ca ga rc cc gc W h0 h1 hr
  have hsz := ht.size
  have hT : ∀ W, Below w.heap.size w W → TabIn W := fun W h => ht.below h hsz
  have hI : ∀ W, Below w.heap.size w W → ImgIn W.heap.size W ra ca ga m := fun W h => (hm.below h).mono h.size
  replace hT := Hid.mk hT
  replace hI := Hid.mk hI
  replace hr := Hid.mk hr
  clear ht hm
  go_enter Tryd.func5, Tryd.ntmps5
  go_wp2_with fail
  have M : Box (w.alloc (.cells #[.slice ra m.regs.length rc, .slice ca m.comps.length cc, .slice ga m.gates.length gc, .int .i64 m.depth] 41)) w.heap.size #[.slice ra m.regs.length rc, .slice ca m.comps.length cc, .slice ga m.gates.length gc, .int .i64 m.depth] 41 := Box.new w _ _
  have hB0 : Below w.heap.size w (w.alloc (.cells #[.slice ra m.regs.length rc, .slice ca m.comps.length cc, .slice ga m.gates.length gc, .int .i64 m.depth] 41)) := ((Gr.refl w).alloc _).below
  refine (hE _ (hT.out _ hB0)).mono ?_
  rintro x w1 ⟨rfl, hB1⟩
  replace M := M.below hB1 M.lt
  have hB := hB0.trans (hB1.mono hB0.size)
  clear hB0 hB1 hE
  have ⟨z0, p0, f0⟩ := M.at
  go_wp2_with fail
  refine (hR _ (hT.out _ hB) (hI.out _ hB)).mono ?_
  rintro x w2 ⟨rfl, hG⟩
  replace M := M.gr hG
  replace hB := hB.trans (hG.below.mono hB.size)
  clear hG z0 p0 f0 hR hT
  have ⟨z0, p0, f0⟩ := M.at
  by_cases he : m.right = 0
  case neg =>
    have he' : (m.right != 0) = true := by simpa using he
    clear hI hr M
    replace hB := Hid.mk hB
    go_wp2_with fail
    go_ret
    exact ⟨rfl, hB.out⟩
  have he' : (m.right != 0) = false := by simpa using he
  replace he := Hid.mk he
  replace hB := Hid.mk hB
  replace M := Hid.mk M
  go_wp2_with fail
  obtain ⟨hreg, hcod⟩ := mem_parts he.out
  have hl1 : m.regs.length ≤ 140737488355328 := hr.out.regs.1
  clear z0 p0 f0 he he'
  replace hcod := Hid.mk hcod
  go_loopw [5, 6] (fun v i wr => ∃ (j : Nat) (f : Int), v = .int .u64 f ∧ i = .int .i64 j ∧ j ≤ m.regs.length ∧ Hid (regsR (m.regs.drop j) f = 0 ∧ Below w.heap.size w wr ∧ Box wr w.heap.size #[.slice ra m.regs.length rc, .slice ca m.comps.length cc, .slice ga m.gates.length gc, .int .i64 m.depth] 41)) (fun _ i _ => m.regs.length - (intOf i).toNat)
  case atStart => exact ⟨0, 0, rfl, rfl, by omega, ⟨hreg, hB.out, M.out⟩⟩
  case round =>
    clear hB M
    obtain ⟨j, f, rfl, rfl, hj, ⟨hf, hB, M⟩⟩ := hrel
    by_cases hlt : j < m.regs.length
    · have jl : (j : Int) < m.regs.length := by omega
      obtain ⟨b, off, sa, sc, rfl, hb, hb2, c0, c1, c2, c3, hs⟩ := (hI.out _ hB).regs j hlt
      obtain ⟨⟨rb0, rb1⟩, ⟨rn0, rn1⟩, hd, hsl, _⟩ := hr.out.regs.2 m.regs[j] (List.getElem_mem hlt)
      obtain ⟨⟨g1, g2, g3, g4⟩, hsn, hsr, hnext⟩ := regs_step hlt hf
      generalize m.regs[j] = r at *
      have n1 : ¬ r.b < f := by omega
      have n2 : IntKind.u64.wrap (r.b + r.n) = r.b + r.n := by rw [IntKind.wrap_u64]; omega
      have n3 : ¬ 65536 < r.b + r.n := by omega
      have n4 : ¬ r.b + r.n ≤ r.b := by omega
      have hsl1 : r.slots.length ≤ 140737488355328 := hsl
      have ⟨z0, p0, f0⟩ := M.at
      replace hB := Hid.mk hB
      replace M := Hid.mk M
      replace hs := Hid.mk hs
      replace hnext := Hid.mk hnext
      replace hsr := Hid.mk hsr
      replace hsn := Hid.mk hsn
      clear hf hd hsl
      go_wp2_with fail
      have X : Box (wr.alloc (.cells #[.int .u64 r.b, .int .u64 r.n, .string (str r.data), .slice sa r.slots.length sc] 51)) wr.heap.size #[.int .u64 r.b, .int .u64 r.n, .string (str r.data), .slice sa r.slots.length sc] 51 := Box.new _ _ _
      have hG0 : Gr wr (wr.alloc (.cells #[.int .u64 r.b, .int .u64 r.n, .string (str r.data), .slice sa r.slots.length sc] 51)) := (Gr.refl wr).alloc _
      replace M := Hid.mk (M.out.alloc (.cells #[.int .u64 r.b, .int .u64 r.n, .string (str r.data), .slice sa r.slots.length sc] 51))
      replace hB := Hid.mk (hB.out.trans (hG0.below.mono hB.out.size))
      replace hs := Hid.mk (hs.out.below hG0.below)
      have hle : wr.heap.size ≤ (wr.alloc (.cells #[.int .u64 r.b, .int .u64 r.n, .string (str r.data), .slice sa r.slots.length sc] 51)).heap.size := gr_size hG0
      clear hG0 z0 p0 f0 c0 c1 c2 c3
      generalize wr.alloc (.cells #[.int .u64 r.b, .int .u64 r.n, .string (str r.data), .slice sa r.slots.length sc] 51) = W0 at *
      replace X := Hid.mk X
      generalize wr.heap.size = kx at *
      go_loopw [8] (fun i ws => ∃ k : Nat, i = .int .i64 k ∧ k ≤ r.slots.length ∧ Hid (slotsR (r.slots.drop k) = true ∧ Gr W0 ws)) (fun i _ => r.slots.length - (intOf i).toNat)
      case atStart => exact ⟨0, rfl, by omega, ⟨hsr.out, Gr.refl _⟩⟩
      case round =>
        obtain ⟨k, rfl, hk, ⟨hsf, hG⟩⟩ := hrel
        have MM := M.out.gr hG
        have XX := X.out.gr hG
        have ⟨z0, p0, f0⟩ := MM.at
        have ⟨z1, p1, f1⟩ := XX.at
        by_cases hkl : k < r.slots.length
        · have kl : (k : Int) < r.slots.length := by omega
          obtain ⟨b2, off2, rfl, hb3, hb4, hcc⟩ := (hs.out.below (hG.below.mono hle)) k hkl
          obtain ⟨d0, d1, d2, d3, d4, d5, d6, d7⟩ := slot_cells hcc
          clear hcc
          obtain ⟨⟨t1, t2⟩, hnx⟩ := slots_step hkl hsf
          have hn := hsn.out (by omega)
          generalize r.slots[k] = t at *
          rcases t with ⟨⟨tc, tb, te, lo, hi, tp, ts⟩, c⟩
          simp only at t1 t2 d0 d1 d2 d3 d4 d5 d6 d7
          subst t1
          have hc := CapOf_any ⟨true, tb, te, lo, hi, tp, ts⟩ c
          have hF := Fits_eq 0 tb te c tp ts lo hi
          rw [t2] at hF
          simp only at hc
          have e1 : IntKind.u64.wrap (k : Int) = k := by rw [IntKind.wrap_u64]; omega
          have e2 : IntKind.u64.wrap (16 * (k : Int)) = 16 * (k : Int) := by rw [IntKind.wrap_u64]; omega
          have e3 : IntKind.u64.wrap (r.b + 16 * (k : Int)) = r.b + 16 * (k : Int) := by rw [IntKind.wrap_u64]; omega
          have e4 : ¬ r.b + r.n ≤ r.b + 16 * (k : Int) := by omega
          replace hnx := Hid.mk hnx
          replace hG := Hid.mk hG
          clear hsf t2 hn
          replace MM := Hid.mk MM
          replace XX := Hid.mk XX
          go_wp2_with fail
          have S : Box (wr.alloc (.cells #[.bool true, .int .u64 tb, .int .u64 te, .int .u64 lo, .int .u64 hi, .int .u8 tp, .int .i64 ts, .int .u64 c] 56)) wr.heap.size #[.bool true, .int .u64 tb, .int .u64 te, .int .u64 lo, .int .u64 hi, .int .u8 tp, .int .i64 ts, .int .u64 c] 56 := Box.new _ _ _
          refine (hc _).mono ?_
          rintro x w5 ⟨rfl, hG5⟩
          replace S := S.gr hG5
          replace XX := Hid.mk ((XX.out.alloc _).gr hG5)
          replace hG := Hid.mk ((hG.out.alloc _).trans hG5)
          clear hG5 hc z0 p0 f0 z1 p1 f1 d0 d1 d2 d3 d4 d5 d6 d7 MM
          have C : Box (w5.alloc (.cells #[.int .u64 tb, .int .u64 te, .int .u64 c, .int .u8 tp, .int .i64 ts] 58)) w5.heap.size #[.int .u64 tb, .int .u64 te, .int .u64 c, .int .u8 tp, .int .i64 ts] 58 := Box.new _ _ _
          have ⟨z2, p2, f2⟩ := (S.alloc (.cells #[.int .u64 tb, .int .u64 te, .int .u64 c, .int .u8 tp, .int .i64 ts] 58)).at
          go_wp2_with fail
          refine (hF _).mono ?_
          rintro x w6 ⟨rfl, hG5⟩
          replace XX := Hid.mk ((XX.out.alloc _).gr hG5)
          replace hG := Hid.mk ((hG.out.alloc _).trans hG5)
          clear hG5 hF z2 p2 f2 C S
          have ⟨z1, p1, f1⟩ := XX.out.at
          go_wp2_with fail
          go_roundw
          case rel => exact ⟨k + 1, by simp, by omega, ⟨hnx.out, hG.out⟩⟩
          case measure => simp [intOf]; omega
        · have kl : ¬ (k : Int) < r.slots.length := by omega
          replace hG := Hid.mk hG
          go_wp2_with fail
          go_roundw
          case rel => exact ⟨j + 1, r.b + r.n, rfl, by simp, by omega, ⟨hnext.out, hB.out.trans (hG.out.below.mono hB.out.size), M.out.gr hG.out⟩⟩
          case measure => simp [intOf]; omega
    · have jl : ¬ (j : Int) < m.regs.length := by omega
      have ⟨z0, p0, f0⟩ := M.at
      replace hB := Hid.mk hB
      replace M := Hid.mk M
      go_wp2_with fail
      clear z0 p0 f0 jl hf hlt hj hl1 hreg
      have hl2 : m.comps.length ≤ 140737488355328 := hr.out.comps.1
      go_loopw [12, 13] (fun v i ws => ∃ (q : Nat) (l : Int), v = .int .u64 l ∧ i = .int .i64 q ∧ q ≤ m.comps.length ∧ 0 ≤ l ∧ l ≤ codeBase q ∧ Hid (Below w.heap.size w ws ∧ Box ws w.heap.size #[.slice ra m.regs.length rc, .slice ca m.comps.length cc, .slice ga m.gates.length gc, .int .i64 m.depth] 41)) (fun _ i _ => m.comps.length - (intOf i).toNat)
      case atStart => exact ⟨0, 65536, rfl, rfl, by omega, by omega, by unfold codeBase; omega, ⟨hB.out, M.out⟩⟩
      case round =>
        clear hB M
        obtain ⟨q, l, rfl, rfl, hq, l0, l1, ⟨hB, M⟩⟩ := hrel
        have ⟨z0, p0, f0⟩ := M.at
        by_cases hlt : q < m.comps.length
        · have ql : (q : Int) < m.comps.length := by omega
          replace hB := Hid.mk hB
          replace M := Hid.mk M
          have hlen := hcod.out m.comps[q] (List.getElem_mem hlt)
          have hcb : codeBase (q + 1) = codeBase q + 65536 := by unfold codeBase; omega
          have hcb0 : 0 ≤ codeBase q ∧ codeBase q < 9223372036856000000 := by unfold codeBase; omega
          go_wp2_with fail
          clear z0 p0 f0
          go_loopw [12, 14] (fun v i ws => ∃ (k : Nat) (l : Int), v = .int .u64 l ∧ i = .int .i64 k ∧ k ≤ m.comps[q].code.length ∧ 0 ≤ l ∧ l ≤ codeBase q + (k : Int) * 8 ∧ Hid (Below w.heap.size w ws ∧ Box ws w.heap.size #[.slice ra m.regs.length rc, .slice ca m.comps.length cc, .slice ga m.gates.length gc, .int .i64 m.depth] 41)) (fun _ i _ => m.comps[q].code.length - (intOf i).toNat)
          case atStart => exact ⟨0, l, rfl, rfl, by omega, l0, by omega, ⟨hB.out, M.out⟩⟩
          case round =>
            clear hB M l0 l1
            obtain ⟨k, l, rfl, rfl, hk, l0, l1, ⟨hB, M⟩⟩ := hrel
            have ⟨z0, p0, f0⟩ := M.at
            have hCI := (hI.out _ hB).comps
            obtain ⟨b, off, ra', rc', ka, kc, hca, _, hb, _, c1, _, _⟩ := hCI q hlt
            by_cases hkl : k < m.comps[q].code.length
            · have kl : (k : Int) < m.comps[q].code.length := by omega
              have hC := fun W (h : CompIn W.heap.size W ca m.comps) => CodeCap_yes m q k ra ca ga m.regs.length rc cc m.gates.length gc W h hlt hl2 ⟨by omega, kl⟩ (by unfold maxI; omega)
              have hC1 : ∀ W, Below w.heap.size w W → CompIn W.heap.size W ca m.comps := fun W h => (hI.out W h).comps
              replace hC1 := Hid.mk hC1
              generalize m.comps[q].code.length = n at *
              have e1 : IntKind.u64.wrap (codeBase q + (k : Int) * 8 + 8) = codeBase q + (k : Int) * 8 + 8 := by rw [IntKind.wrap_u64]; omega
              have n1 : ¬ codeBase q + (k : Int) * 8 < l := by omega
              have n2 : ¬ codeBase q + (k : Int) * 8 < codeBase q := by omega
              have n3 : ¬ codeBase q + (n : Int) * 8 < codeBase q + (k : Int) * 8 + 8 := by omega
              subst hca
              replace hB := Hid.mk hB
              replace M := Hid.mk M
              clear hCI
              go_wp2_with fail
              refine (hC _ (hC1.out _ hB.out)).mono ?_
              rintro x w5 ⟨rfl, hG⟩
              replace M := Hid.mk (M.out.gr hG)
              replace hB := Hid.mk (hB.out.trans (hG.below.mono hB.out.size))
              clear hG z0 p0 f0 hC c1 hb
              have C : Box (w5.alloc (.cells #[.int .u64 (codeBase q), .int .u64 (codeBase q + (n : Int) * 8), .int .u64 (codeBase q + (k : Int) * 8), .int .u8 16, .int .i64 0] 58)) w5.heap.size #[.int .u64 (codeBase q), .int .u64 (codeBase q + (n : Int) * 8), .int .u64 (codeBase q + (k : Int) * 8), .int .u8 16, .int .i64 0] 58 := Box.new _ _ _
              replace M := Hid.mk (M.out.alloc (.cells #[.int .u64 (codeBase q), .int .u64 (codeBase q + (n : Int) * 8), .int .u64 (codeBase q + (k : Int) * 8), .int .u8 16, .int .i64 0] 58))
              replace hB := Hid.mk (hB.out.trans (((Gr.refl w5).alloc (.cells #[.int .u64 (codeBase q), .int .u64 (codeBase q + (n : Int) * 8), .int .u64 (codeBase q + (k : Int) * 8), .int .u8 16, .int .i64 0] 58)).below.mono hB.out.size))
              go_wp2_with fail
              go_roundw
              case rel => exact ⟨k + 1, codeBase q + (k : Int) * 8 + 8, rfl, by simp, by omega, by omega, by omega, ⟨hB.out, M.out⟩⟩
              case measure => simp [intOf]; omega
            · have kl : ¬ (k : Int) < m.comps[q].code.length := by omega
              have hno : hasI m.comps q (m.comps[q].code.length : Int) = false := by
                unfold hasI
                rw [if_pos ⟨by omega, by omega, by omega⟩, Int.toNat_natCast, List.getElem?_eq_getElem hlt]
                simp
              have hC := fun W (h : CompIn W.heap.size W ca m.comps) => CodeCap_no m q (m.comps[q].code.length : Int) ra ca ga m.regs.length rc cc m.gates.length gc W h hno
              have hC1 : ∀ W, Below w.heap.size w W → CompIn W.heap.size W ca m.comps := fun W h => (hI.out W h).comps
              replace hC1 := Hid.mk hC1
              generalize m.comps[q].code.length = n at *
              subst hca
              have hCG : ∀ W, Gr wr W → CompIn W.heap.size W (some ⟨b, off, none⟩) m.comps := fun W h => hC1.out W (hB.trans (h.below.mono hB.size))
              have KS : ∀ W, Gr wr W → W.cell? ⟨w.heap.size, 0, none⟩ = some (.slice ra m.regs.length rc) ∧ W.cell? ⟨w.heap.size, 1, none⟩ = some (.slice (some ⟨b, off, none⟩) m.comps.length cc) ∧ W.cell? ⟨w.heap.size, 2, none⟩ = some (.slice ga m.gates.length gc) ∧ W.cell? ⟨w.heap.size, 3, none⟩ = some (.int .i64 m.depth) ∧ W.cell? ⟨b, off + q * 2 + 1, none⟩ = some (.slice ka n kc) := fun W hG => ⟨(hG.cell z0 _).trans (p0 0), (hG.cell z0 _).trans (p0 1), (hG.cell z0 _).trans (p0 2), (hG.cell z0 _).trans (p0 3), (hG.cell hb _).trans c1⟩
              replace KS := Hid.mk KS
              replace hCG := Hid.mk hCG
              replace hB := Hid.mk hB
              replace M := Hid.mk M
              clear hCI
              go_wp2_with fail
              clear z0 p0 f0 c1
              have L1 := grow_cell; have L2 := grow_frozen; have L3 := grow_set; have L4 := grow_lt; have L5 := glt1; have L6 := glt2; have L7 := glt3; have L8 := glt4; have L9 := glt5; have L10 := glt6; have L11 := lt1; have L12 := lt2; have L13 := lt3; have L14 := lt4; have L15 := lt5; have L16 := lt6; have L17 := lt7; have L18 := lt8
              first | (go_region_held3 (fun W => W.cell? ⟨w.heap.size, 0, none⟩ = some (.slice ra m.regs.length rc) ∧ W.cell? ⟨w.heap.size, 1, none⟩ = some (.slice (some ⟨b, off, none⟩) m.comps.length cc) ∧ W.cell? ⟨w.heap.size, 2, none⟩ = some (.slice ga m.gates.length gc) ∧ W.cell? ⟨w.heap.size, 3, none⟩ = some (.int .i64 m.depth) ∧ W.cell? ⟨b, off + q * 2 + 1, none⟩ = some (.slice ka n kc)) ((refine KS.out _ ?_; (with_reducible repeat (first | exact Gr.refl _ | refine Gr.alloc ?_ _ | refine Gr.grow ?_ _ | refine Gr.drew ?_ | refine Gr.setCell ?_ _ _ _ (gr_size ?_))))) (first | (go_at_call 20; refine (hC _ (hCG.out _ (by (with_reducible repeat (first | exact Gr.refl _ | refine Gr.alloc ?_ _ | refine Gr.grow ?_ _ | refine Gr.drew ?_ | refine Gr.setCell ?_ _ _ _ (gr_size ?_)))))).mono ?_; rintro x w' ⟨rfl, hG⟩; (repeat (replace hG := Gr.of_grow hG)); obtain ⟨l, rfl⟩ := hG))) | fail
              all_goals
                clear KS hCG
                go_wp2_with fail
                clear L1 L2 L3 L4 L5 L6 L7 L8 L9 L10 L11 L12 L13 L14 L15 L16 L17 L18
                go_roundw
                case rel => exact ⟨q + 1, _, rfl, by simp, by omega, l0, by omega, ⟨hB.out.trans (Below.mono (Gr.below (by (with_reducible repeat (first | exact Gr.refl _ | refine Gr.alloc ?_ _ | refine Gr.grow ?_ _ | refine Gr.drew ?_ | refine Gr.setCell ?_ _ _ _ (gr_size ?_))))) hB.out.size), M.out.gr (by (with_reducible repeat (first | exact Gr.refl _ | refine Gr.alloc ?_ _ | refine Gr.grow ?_ _ | refine Gr.drew ?_ | refine Gr.setCell ?_ _ _ _ (gr_size ?_))))⟩⟩
                case measure => simp [intOf]; omega
        · have ql : ¬ (q : Int) < m.comps.length := by omega
          replace hB := Hid.mk hB
          replace M := Hid.mk M
          go_wp2_with fail
          go_ret
          exact ⟨rfl, hB.out⟩
end Go.Proofs.YthmfaafpdogpdaaDoor
