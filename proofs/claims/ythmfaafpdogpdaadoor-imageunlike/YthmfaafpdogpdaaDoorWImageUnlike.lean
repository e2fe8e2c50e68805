import Derived.Test.YthmfaafpdogpdaaDoorP14
import Derived.Test.YthmfaafpdogpdaaDoorP18
import Derived.Test.YthmfaafpdogpdaaDoorP19
import Derived.Test.YthmfaafpdogpdaaDoorP20
import Derived.Laws.IdiomStrings
/-
  Stage 4, image: the walk of the statement that bytes are alike only if programs are.
-/
namespace Go.Proofs.YthmfaafpdogpdaaDoor
open Go.RowKit

theorem xor_other (a b : Nat) (ha : a < 256) (hb : b < 256) (h0 : b ≠ 0) : ∃ v : Nat, bits .xor .u8 (a : Int) (b : Int) = v ∧ v < 256 ∧ v ≠ a := by
  refine ⟨a ^^^ b, u8_xor_nat a b ha hb, Nat.xor_lt_two_pow (n := 8) (by omega) (by omega), fun h => h0 ?_⟩
  have : a ^^^ (a ^^^ b) = a ^^^ a := by rw [h]
  rw [← Nat.xor_assoc, Nat.xor_self, Nat.zero_xor] at this
  exact this
theorem bytes_free (T : List UInt8) (w : World) : ∃ c W, (convert 9 71 (.string (str T))).run Tryd.prog w = .ok (.slice (some ⟨w.heap.size, 0, none⟩) T.length c) W ∧ Gr w W ∧ (∀ j (h : j < T.length), W.cell? ⟨w.heap.size, j, none⟩ = some (.int .u8 T[j].toNat) ∧ W.frozen? ⟨w.heap.size, j, none⟩ = false) ∧ w.heap.size < W.heap.size := by
  have hr := run_bytes_of_string (P := Tryd.prog) w 9 71 5 (str T) Tryd.underlying9 Tryd.underlying71 Tryd.underlying5
  rw [str_size] at hr
  refine ⟨_, _, hr, (Gr.refl w).drew.alloc _, fun j hj => ?_, by simp⟩
  have e := (MapKept.heap_alloc w.drew (.cells (bytesRow (str T) (grownCap w T.length 0 5)) 5 ((bytesRow (str T) (grownCap w T.length 0 5)).size, (bytesRow (str T) (grownCap w T.length 0 5)).size + 1))).1
  have e2 : w.drew.heap.size = w.heap.size := rfl
  rw [e2] at e
  refine ⟨?_, ?_⟩
  · simp only [World.cell?]
    rw [e]
    simp [bytesRow, str, Array.getElem?_append, hj]
  · have hsz : T.length ≤ (bytesRow (str T) (grownCap w T.length 0 5)).size := by
      simp [bytesRow, str]
    simp only [World.frozen?]
    rw [e]
    simp
    omega
theorem back_string (T : List UInt8) (kk : Nat) (v : Nat) (W : World) (X c : Nat) (hk : kk < T.length) (hv : v < 256) (h : ∀ j (h : j < T.length), W.cell? ⟨X, j, none⟩ = some (.int .u8 T[j].toNat)) :
    (convert 71 9 (.slice (some ⟨X, 0, none⟩) T.length c)).run Tryd.prog (W.setCell ⟨X, kk, none⟩ (.int .u8 v)).drew = .ok (.string (str (T.set kk (UInt8.ofNat v)))) (W.setCell ⟨X, kk, none⟩ (.int .u8 v)).drew := by
  have hl : (T.set kk (UInt8.ofNat v)).length = T.length := by simp
  have := run_convert_bytes_back (P := Tryd.prog) (W.setCell ⟨X, kk, none⟩ (.int .u8 v)).drew 71 9 5 ⟨X, 0, none⟩ c (T.set kk (UInt8.ofNat v)) Tryd.underlying71 Tryd.underlying5 Tryd.underlying9 fun j hj => by
    have ea : (⟨X, 0, none⟩ : Addr).add j = ⟨X, j, none⟩ := by by_cases h0 : j = 0 <;> simp [Addr.add, h0]
    rw [ea]
    rw [hl] at hj
    show (W.setCell ⟨X, kk, none⟩ (.int .u8 v)).cell? ⟨X, j, none⟩ = _
    by_cases hjk : kk = j
    · subst hjk
      rw [World.cell?_setCell_same W _ _ (u := .int .u8 T[kk].toNat) (h kk hk)]
      simp
      omega
    · rw [World.cell?_setCell_other (w := W) (a := ⟨X, kk, none⟩) (v := .int .u8 v) (b := ⟨X, j, none⟩) (by simp), h j hj]
      simp [hjk]
  rw [hl] at this
  exact this
theorem set_ne (T : List UInt8) (kk : Nat) (v : Nat) (hk : kk < T.length) (hv : v < 256) (h : v ≠ T[kk].toNat) : T.set kk (UInt8.ofNat v) ≠ T := fun e => by
  have : (T.set kk (UInt8.ofNat v))[kk]'(by simpa using hk) = T[kk] := by simp only [e]
  rw [List.getElem_set_self] at this
  apply h
  rw [← this]
  simp
  omega
set_option maxRecDepth 100000 in
set_option maxHeartbeats 8000000 in
theorem walk_ImageUnlike (m : PImg) (ra ca ga : Option Addr) (rc cc gc : Nat) (n : PImg) (ra' ca' ga' : Option Addr) (rc' cc' gc' : Nat) (at_ by_ : Int) (w : World) (ht : TabIn w) (hm : ImgIn w.heap.size w ra ca ga m) (hr : m.Rng) (hn : ImgIn w.heap.size w ra' ca' ga' n) (hr' : n.Rng) (ha : J64 at_) (hb : J64 by_) :
    Calls Tryd.prog 8 #[.agg #[.slice ra m.regs.length rc, .slice ca m.comps.length cc, .slice ga m.gates.length gc, .int .i64 m.depth], .agg #[.slice ra' n.regs.length rc', .slice ca' n.comps.length cc', .slice ga' n.gates.length gc', .int .i64 n.depth], .int .i64 at_, .int .i64 by_] w fun x w' => x = .returned (.bool true) ∧ Below w.heap.size w w' := by
  have hE := fun W (h0 : TabIn W) => examples_any W h0
  have hN1 := fun W h0 h1 => imgEncode_any m ra ca ga rc cc gc W h0 h1 hr
  have hN2 := fun W h0 h1 => imgEncode_any n ra' ca' ga' rc' cc' gc' W h0 h1 hr'
  have hS1 := fun W h0 h1 => same_any m n ra ca ga ra' ca' ga' rc cc gc rc' cc' gc' W h0 h1 hr
  have hsz := ht.size
  have hT : ∀ W, Below w.heap.size w W → TabIn W := fun W h => ht.below h hsz
  have hI : ∀ W, Below w.heap.size w W → ImgIn W.heap.size W ra ca ga m := fun W h => (hm.below h).mono h.size
  have hJ : ∀ W, Below w.heap.size w W → ImgIn W.heap.size W ra' ca' ga' n := fun W h => (hn.below h).mono h.size
  replace hT := Hid.mk hT
  replace hI := Hid.mk hI
  replace hJ := Hid.mk hJ
  clear ht hm hn
  have hB0 : Below w.heap.size w ((w.alloc (.cells #[.slice ra m.regs.length rc, .slice ca m.comps.length cc, .slice ga m.gates.length gc, .int .i64 m.depth] 41)).alloc (.cells #[.slice ra' n.regs.length rc', .slice ca' n.comps.length cc', .slice ga' n.gates.length gc', .int .i64 n.depth] 41)) := (((Gr.refl w).alloc _).alloc _).below
  have BA : Box ((w.alloc (.cells #[.slice ra m.regs.length rc, .slice ca m.comps.length cc, .slice ga m.gates.length gc, .int .i64 m.depth] 41)).alloc (.cells #[.slice ra' n.regs.length rc', .slice ca' n.comps.length cc', .slice ga' n.gates.length gc', .int .i64 n.depth] 41)) w.heap.size #[.slice ra m.regs.length rc, .slice ca m.comps.length cc, .slice ga m.gates.length gc, .int .i64 m.depth] 41 := (Box.new w _ _).alloc _
  have BB : Box ((w.alloc (.cells #[.slice ra m.regs.length rc, .slice ca m.comps.length cc, .slice ga m.gates.length gc, .int .i64 m.depth] 41)).alloc (.cells #[.slice ra' n.regs.length rc', .slice ca' n.comps.length cc', .slice ga' n.gates.length gc', .int .i64 n.depth] 41)) (w.heap.size + 1) #[.slice ra' n.regs.length rc', .slice ca' n.comps.length cc', .slice ga' n.gates.length gc', .int .i64 n.depth] 41 := Box.next _ _ _ _
  replace hB0 := Hid.mk hB0
  replace BA := Hid.mk BA
  replace BB := Hid.mk BB
  go_enter Tryd.func8, Tryd.ntmps8
  go_wp2_with fail
  refine (hE _ (hT.out _ hB0.out)).mono ?_
  rintro x w1 ⟨rfl, hB1⟩
  replace BA := BA.out.below hB1 BA.out.lt
  replace BB := BB.out.below hB1 BB.out.lt
  have hB := Hid.mk (hB0.out.trans (hB1.mono hB0.out.size))
  have ⟨z0, p0, f0⟩ := BA.at
  replace BA := Hid.mk BA
  replace BB := Hid.mk BB
  clear hB0 hB1 hE
  go_wp2_with fail
  clear z0 p0 f0
  refine (hN1 _ (hT.out _ hB.out) (hI.out _ hB.out)).mono ?_
  rintro x w2 ⟨rfl, hB2⟩
  replace BA := Hid.mk (BA.out.below hB2 BA.out.lt)
  replace BB := BB.out.below hB2 BB.out.lt
  replace hB := Hid.mk (hB.out.trans (hB2.mono hB.out.size))
  have ⟨z0, p0, f0⟩ := BB.at
  replace BB := Hid.mk BB
  clear hB2 hN1
  go_wp2_with fail
  clear z0 p0 f0
  refine (hN2 _ (hT.out _ hB.out) (hJ.out _ hB.out)).mono ?_
  rintro x w3 ⟨rfl, hB2⟩
  replace BA := BA.out.below hB2 BA.out.lt
  replace BB := BB.out.below hB2 BB.out.lt
  replace hB := Hid.mk (hB.out.trans (hB2.mono hB.out.size))
  have ⟨z0, p0, f0⟩ := BA.at
  have ⟨z1, p1, f1⟩ := BB.at
  replace BA := Hid.mk BA
  replace BB := Hid.mk BB
  clear hB2 hN2
  by_cases he : (encI m).2 = 0
  case neg =>
    have g1 : ((encI m).2 == 0) = false := by simpa using he
    have g2 : ((encI m).2 != 0) = true := by simpa using he
    generalize encI m = q1 at *
    generalize encI n = q2 at *
    replace he := Hid.mk he
    go_wp2_with fail
    go_ret
    exact ⟨rfl, hB.out⟩
  obtain ⟨hr0, hl0, hen⟩ := encI_ok he
  have hback : ∀ T, (decI T).2.1 = 0 → (decI T).1 = m → T = imgB m := fun T h1 h2 => by
    obtain ⟨d1, d2, d3⟩ := decI_ok h1
    rw [d1] at h2
    simp only at h2
    rw [h2, hen] at d3
    exact (congrArg Prod.fst d3).symm
  have hpos : 0 < (imgB m).length := by rw [imgB_body hr0]; simp [magicB]
  have hkey : (encI n).2 = 0 → (m.eqB n = true ↔ imgB m = (encI n).1) := fun hf => by
    obtain ⟨k0, k1, k2⟩ := encI_ok hf
    rw [k2, PImg.eqB_iff]
    exact ⟨fun e => by rw [e], fun e => imgB_inj hr0 hr hl0 k0 hr' k1 e⟩
  rw [hen]
  have hS2 := fun o ra1 ca1 ga1 rc1 cc1 gc1 W h0 h1 => same_any m o ra ca ga ra1 ca1 ga1 rc cc gc rc1 cc1 gc1 W h0 h1 hr
  generalize imgB m = S at *
  clear he hen hr0
  have ss := str_size S
  replace hback := Hid.mk hback
  replace hr := Hid.mk hr
  replace hr' := Hid.mk hr'
  -- the turned byte: where, and what
  unfold J64 at ha hb

  by_cases sa : at_ < 0
  case pos =>
    by_cases sb : by_ < 0
    case pos =>
      obtain ⟨P, hP⟩ : ∃ P, -(at_ + 1) = P := ⟨_, rfl⟩
      have hP0 : 0 ≤ P := by omega
      have P1 : IntKind.i64.wrap (at_ + 1) = at_ + 1 := by rw [IntKind.wrap_i64]; omega
      have P2 : IntKind.i64.wrap (-(at_ + 1)) = P := by rw [IntKind.wrap_i64]; omega
      replace hP := Hid.mk hP
      obtain ⟨Q, hQ⟩ : ∃ Q, -(by_ + 1) = Q := ⟨_, rfl⟩
      have hQ0 : 0 ≤ Q := by omega
      have Q1 : IntKind.i64.wrap (by_ + 1) = by_ + 1 := by rw [IntKind.wrap_i64]; omega
      have Q2 : IntKind.i64.wrap (-(by_ + 1)) = Q := by rw [IntKind.wrap_i64]; omega
      replace hQ := Hid.mk hQ
      have hPL := Int.tmod_lt_of_pos P (b := (S.length : Int)) (by omega)
      obtain ⟨kk, hkk⟩ : ∃ kk : Nat, Int.tmod P (S.length : Int) = kk := ⟨_, (Int.toNat_of_nonneg (Int.tmod_nonneg _ hP0)).symm⟩
      rw [hkk] at hPL
      have hk : kk < S.length := by omega
      have hQL := Int.tmod_lt_of_pos Q (b := 255) (by omega)
      obtain ⟨u, hu⟩ : ∃ u : Nat, Int.tmod Q 255 = u := ⟨_, (Int.toNat_of_nonneg (Int.tmod_nonneg _ hQ0)).symm⟩
      rw [hu] at hQL
      have u1 : IntKind.i64.wrap (1 + (u : Int)) = 1 + (u : Int) := by rw [IntKind.wrap_i64]; omega
      have u2 : IntKind.u8.wrap (1 + (u : Int)) = 1 + (u : Int) := by rw [IntKind.wrap_u8]; omega
      obtain ⟨v, hx, hv, hvn⟩ := xor_other S[kk].toNat (1 + u) S[kk].toNat_lt (by omega) (by omega)
      have e1u : ((1 + u : Nat) : Int) = 1 + (u : Int) := by omega
      rw [e1u] at hx
      have hsne := Hid.mk (set_ne S kk v hk hv hvn)
      have hD := fun W (h0 : TabIn W) => imgDecode_any (S.set kk (UInt8.ofNat v)) W h0
      have hl3 : (S.length : Int) ≤ 40000 := by omega
      have hk3 : (kk : Int) < S.length := by omega
      have hk4 : (0 : Int) ≤ kk := by omega
      have gl : ((S.length : Int) == 0) = false := beq_false_of_ne (by omega)
      by_cases hf : (encI n).2 = 0
      case neg =>
        have g3 : ((encI n).2 == 0) = false := by simpa using hf
        have BA0 := Hid.mk BA.out.lt
        generalize encI n = q2 at *
        replace hf := Hid.mk hf
        obtain ⟨c, W, hcv, hG, hcs, hX⟩ := bytes_free S w3
        have hbs2 := back_string S kk v W w3.heap.size c hk hv (fun j hj => (hcs j hj).1)
        replace hB := Hid.mk (hB.out.trans (hG.below.mono hB.out.size))
        replace BA := Hid.mk (BA.out.gr hG)
        obtain ⟨q0, qf⟩ := hcs kk hk
        have hBV : Below w.heap.size w ((W.setCell ⟨w3.heap.size, kk, none⟩ (.int .u8 v)).drew) := Below.drew (hB.out.setCell (p := ⟨w3.heap.size, kk, none⟩) (Nat.le_of_lt BA0.out) (.int .u8 v))
        have BAV0 : Box (W.setCell ⟨w3.heap.size, kk, none⟩ (.int .u8 v)) w.heap.size #[.slice ra m.regs.length rc, .slice ca m.comps.length cc, .slice ga m.gates.length gc, .int .i64 m.depth] 41 := BA.out.kept (grown_set W w3.heap.size kk (.int .u8 v)) (by have := BA0.out; omega)
        have BAV : Box ((W.setCell ⟨w3.heap.size, kk, none⟩ (.int .u8 v)).drew) w.heap.size #[.slice ra m.regs.length rc, .slice ca m.comps.length cc, .slice ga m.gates.length gc, .int .i64 m.depth] 41 := BAV0
        clear BAV0
        replace hBV := Hid.mk hBV
        replace BAV := Hid.mk BAV
        clear hcs hG hB BA
        by_cases hd : (decI (S.set kk (UInt8.ofNat v))).2.1 = 0
        · have hdm : m.eqB (decI (S.set kk (UInt8.ofNat v))).1 = false := by
            cases hq : m.eqB (decI (S.set kk (UInt8.ofNat v))).1 with
            | false => rfl
            | true => exact absurd (hback.out _ hd ((PImg.eqB_iff _ _).1 hq).symm) hsne.out
          have hd2 : ((decI (S.set kk (UInt8.ofNat v))).2.1 != 0) = false := by simpa using hd
          generalize decI (S.set kk (UInt8.ofNat v)) = dd at *
          obtain ⟨o, g, pl⟩ := dd
          simp only at hd hd2 hdm
          replace hd := Hid.mk hd
          go_wp2_with fail
          go_region
          go_wp2_with fail
          refine (hD _ (hT.out _ hBV.out)).mono ?_
          rintro x w5 ⟨oa, oc, pa, pc, qa, qc, rfl, hO, hB5⟩
          replace BAV := BAV.out.below hB5 BAV.out.lt
          replace hB := Hid.mk (hBV.out.trans (hB5.mono hBV.out.size))
          have hG6 : Gr w5 (w5.alloc (.cells #[.slice oa o.regs.length oc, .slice pa o.comps.length pc, .slice qa o.gates.length qc, .int .i64 o.depth] 41)) := (Gr.refl w5).alloc _
          replace hO := hO.step (grown_of hG6.below none) (ne7_none _)
          replace BAV := BAV.gr hG6
          replace hB := Hid.mk (hB.out.trans (hG6.below.mono hB.out.size))
          have hOI := hO.into
          have OB := Box.new w5 #[.slice oa o.regs.length oc, .slice pa o.comps.length pc, .slice qa o.gates.length qc, .int .i64 o.depth] 41
          have ⟨z2, p2, f2⟩ := BAV.at
          have ⟨z3, p3, f3⟩ := OB.at
          have hsm := hS2 o oa pa qa oc pc qc _ (hI.out _ hB.out) hOI
          replace BAV := Hid.mk BAV
          replace OB := Hid.mk OB
          replace hO := Hid.mk hO
          clear hG6 hB5 hD hbs2 hcv hS2 hBV q0 qf hOI
          rw [hdm] at hsm
          go_wp2_with fail
          refine hsm.mono ?_
          rintro x w7 ⟨rfl, hG7⟩
          replace hB := Hid.mk (hB.out.trans (hG7.below.mono hB.out.size))
          clear hG7 hsm z2 p2 f2 z3 p3 f3
          go_wp2_with fail
          go_ret
          exact ⟨rfl, hB.out⟩
        · have hd2 : ((decI (S.set kk (UInt8.ofNat v))).2.1 != 0) = true := by simpa using hd
          generalize decI (S.set kk (UInt8.ofNat v)) = dd at *
          obtain ⟨o, g, pl⟩ := dd
          simp only at hd hd2
          replace hd := Hid.mk hd
          go_wp2_with fail
          go_region
          go_wp2_with fail
          refine (hD _ (hT.out _ hBV.out)).mono ?_
          rintro x w5 ⟨oa, oc, pa, pc, qa, qc, rfl, hO, hB5⟩
          replace BAV := BAV.out.below hB5 BAV.out.lt
          replace hB := Hid.mk (hBV.out.trans (hB5.mono hBV.out.size))
          have hG6 : Gr w5 (w5.alloc (.cells #[.slice oa o.regs.length oc, .slice pa o.comps.length pc, .slice qa o.gates.length qc, .int .i64 o.depth] 41)) := (Gr.refl w5).alloc _
          replace hO := hO.step (grown_of hG6.below none) (ne7_none _)
          replace BAV := BAV.gr hG6
          replace hB := Hid.mk (hB.out.trans (hG6.below.mono hB.out.size))
          have hOI := hO.into
          have OB := Box.new w5 #[.slice oa o.regs.length oc, .slice pa o.comps.length pc, .slice qa o.gates.length qc, .int .i64 o.depth] 41
          have ⟨z2, p2, f2⟩ := BAV.at
          have ⟨z3, p3, f3⟩ := OB.at
          have hsm := hS2 o oa pa qa oc pc qc _ (hI.out _ hB.out) hOI
          replace BAV := Hid.mk BAV
          replace OB := Hid.mk OB
          replace hO := Hid.mk hO
          clear hG6 hB5 hD hbs2 hcv hS2 hBV q0 qf hOI
          generalize m.eqB o = rr at hsm
          go_wp2_with fail
          refine hsm.mono ?_
          rintro x w7 ⟨rfl, hG7⟩
          replace hB := Hid.mk (hB.out.trans (hG7.below.mono hB.out.size))
          clear hG7 hsm z2 p2 f2 z3 p3 f3
          go_wp2_with fail
          go_ret
          exact ⟨rfl, hB.out⟩
      have g3 : ((encI n).2 == 0) = true := by simpa using hf
      have hkey2 := hkey hf
      generalize encI n = q2 at *
      obtain ⟨T2, f2⟩ := q2
      simp only at hf g3 hkey2 hkey
      clear hkey
      replace hf := Hid.mk hf
      have hsm := hS1 _ (hI.out _ hB.out) (hJ.out _ hB.out)
      have s2 := str_list S
      have s3 := str_list T2
      by_cases hst : S = T2
      · have hms := hkey2.2 hst
        rw [hms] at hsm
        have hst2 : (str S).toList = (str T2).toList := by rw [hst]
        replace hst := Hid.mk hst
        clear hkey2 s2 s3
        replace hms := Hid.mk hms
        go_wp2_with fail
        refine hsm.mono ?_
        rintro x w4 ⟨rfl, hG4⟩
        replace hB := Hid.mk (hB.out.trans (hG4.below.mono hB.out.size))
        replace BA := Hid.mk (BA.out.gr hG4)
        have BA0 := Hid.mk BA.out.lt
        clear hG4 hsm z0 p0 f0 z1 p1 f1
        obtain ⟨c, W, hcv, hG, hcs, hX⟩ := bytes_free S w4
        have hbs2 := back_string S kk v W w4.heap.size c hk hv (fun j hj => (hcs j hj).1)
        replace hB := Hid.mk (hB.out.trans (hG.below.mono hB.out.size))
        replace BA := Hid.mk (BA.out.gr hG)
        obtain ⟨q0, qf⟩ := hcs kk hk
        have hBV : Below w.heap.size w ((W.setCell ⟨w4.heap.size, kk, none⟩ (.int .u8 v)).drew) := Below.drew (hB.out.setCell (p := ⟨w4.heap.size, kk, none⟩) (Nat.le_of_lt BA0.out) (.int .u8 v))
        have BAV0 : Box (W.setCell ⟨w4.heap.size, kk, none⟩ (.int .u8 v)) w.heap.size #[.slice ra m.regs.length rc, .slice ca m.comps.length cc, .slice ga m.gates.length gc, .int .i64 m.depth] 41 := BA.out.kept (grown_set W w4.heap.size kk (.int .u8 v)) (by have := BA0.out; omega)
        have BAV : Box ((W.setCell ⟨w4.heap.size, kk, none⟩ (.int .u8 v)).drew) w.heap.size #[.slice ra m.regs.length rc, .slice ca m.comps.length cc, .slice ga m.gates.length gc, .int .i64 m.depth] 41 := BAV0
        clear BAV0
        replace hBV := Hid.mk hBV
        replace BAV := Hid.mk BAV
        clear hcs hG hB BA
        by_cases hd : (decI (S.set kk (UInt8.ofNat v))).2.1 = 0
        · have hdm : m.eqB (decI (S.set kk (UInt8.ofNat v))).1 = false := by
            cases hq : m.eqB (decI (S.set kk (UInt8.ofNat v))).1 with
            | false => rfl
            | true => exact absurd (hback.out _ hd ((PImg.eqB_iff _ _).1 hq).symm) hsne.out
          have hd2 : ((decI (S.set kk (UInt8.ofNat v))).2.1 != 0) = false := by simpa using hd
          generalize decI (S.set kk (UInt8.ofNat v)) = dd at *
          obtain ⟨o, g, pl⟩ := dd
          simp only at hd hd2 hdm
          replace hd := Hid.mk hd
          go_wp2_with fail
          go_region
          go_wp2_with fail
          refine (hD _ (hT.out _ hBV.out)).mono ?_
          rintro x w5 ⟨oa, oc, pa, pc, qa, qc, rfl, hO, hB5⟩
          replace BAV := BAV.out.below hB5 BAV.out.lt
          replace hB := Hid.mk (hBV.out.trans (hB5.mono hBV.out.size))
          have hG6 : Gr w5 (w5.alloc (.cells #[.slice oa o.regs.length oc, .slice pa o.comps.length pc, .slice qa o.gates.length qc, .int .i64 o.depth] 41)) := (Gr.refl w5).alloc _
          replace hO := hO.step (grown_of hG6.below none) (ne7_none _)
          replace BAV := BAV.gr hG6
          replace hB := Hid.mk (hB.out.trans (hG6.below.mono hB.out.size))
          have hOI := hO.into
          have OB := Box.new w5 #[.slice oa o.regs.length oc, .slice pa o.comps.length pc, .slice qa o.gates.length qc, .int .i64 o.depth] 41
          have ⟨z2, p2, f2⟩ := BAV.at
          have ⟨z3, p3, f3⟩ := OB.at
          have hsm := hS2 o oa pa qa oc pc qc _ (hI.out _ hB.out) hOI
          replace BAV := Hid.mk BAV
          replace OB := Hid.mk OB
          replace hO := Hid.mk hO
          clear hG6 hB5 hD hbs2 hcv hS2 hBV q0 qf hOI
          rw [hdm] at hsm
          go_wp2_with fail
          refine hsm.mono ?_
          rintro x w7 ⟨rfl, hG7⟩
          replace hB := Hid.mk (hB.out.trans (hG7.below.mono hB.out.size))
          clear hG7 hsm z2 p2 f2 z3 p3 f3
          go_wp2_with fail
          go_ret
          exact ⟨rfl, hB.out⟩
        · have hd2 : ((decI (S.set kk (UInt8.ofNat v))).2.1 != 0) = true := by simpa using hd
          generalize decI (S.set kk (UInt8.ofNat v)) = dd at *
          obtain ⟨o, g, pl⟩ := dd
          simp only at hd hd2
          replace hd := Hid.mk hd
          go_wp2_with fail
          go_region
          go_wp2_with fail
          refine (hD _ (hT.out _ hBV.out)).mono ?_
          rintro x w5 ⟨oa, oc, pa, pc, qa, qc, rfl, hO, hB5⟩
          replace BAV := BAV.out.below hB5 BAV.out.lt
          replace hB := Hid.mk (hBV.out.trans (hB5.mono hBV.out.size))
          have hG6 : Gr w5 (w5.alloc (.cells #[.slice oa o.regs.length oc, .slice pa o.comps.length pc, .slice qa o.gates.length qc, .int .i64 o.depth] 41)) := (Gr.refl w5).alloc _
          replace hO := hO.step (grown_of hG6.below none) (ne7_none _)
          replace BAV := BAV.gr hG6
          replace hB := Hid.mk (hB.out.trans (hG6.below.mono hB.out.size))
          have hOI := hO.into
          have OB := Box.new w5 #[.slice oa o.regs.length oc, .slice pa o.comps.length pc, .slice qa o.gates.length qc, .int .i64 o.depth] 41
          have ⟨z2, p2, f2⟩ := BAV.at
          have ⟨z3, p3, f3⟩ := OB.at
          have hsm := hS2 o oa pa qa oc pc qc _ (hI.out _ hB.out) hOI
          replace BAV := Hid.mk BAV
          replace OB := Hid.mk OB
          replace hO := Hid.mk hO
          clear hG6 hB5 hD hbs2 hcv hS2 hBV q0 qf hOI
          generalize m.eqB o = rr at hsm
          go_wp2_with fail
          refine hsm.mono ?_
          rintro x w7 ⟨rfl, hG7⟩
          replace hB := Hid.mk (hB.out.trans (hG7.below.mono hB.out.size))
          clear hG7 hsm z2 p2 f2 z3 p3 f3
          go_wp2_with fail
          go_ret
          exact ⟨rfl, hB.out⟩
      · have hms : m.eqB n = false := by
          cases hq : m.eqB n with
          | false => rfl
          | true => exact absurd (hkey2.1 hq) hst
        rw [hms] at hsm
        have hst2 : ((str S).toList == (str T2).toList) = false := by rw [s2, s3]; exact beq_false_of_ne hst
        replace hst := Hid.mk hst
        clear hkey2 s2 s3
        replace hms := Hid.mk hms
        go_wp2_with fail
        refine hsm.mono ?_
        rintro x w4 ⟨rfl, hG4⟩
        replace hB := Hid.mk (hB.out.trans (hG4.below.mono hB.out.size))
        replace BA := Hid.mk (BA.out.gr hG4)
        have BA0 := Hid.mk BA.out.lt
        clear hG4 hsm z0 p0 f0 z1 p1 f1
        obtain ⟨c, W, hcv, hG, hcs, hX⟩ := bytes_free S w4
        have hbs2 := back_string S kk v W w4.heap.size c hk hv (fun j hj => (hcs j hj).1)
        replace hB := Hid.mk (hB.out.trans (hG.below.mono hB.out.size))
        replace BA := Hid.mk (BA.out.gr hG)
        obtain ⟨q0, qf⟩ := hcs kk hk
        have hBV : Below w.heap.size w ((W.setCell ⟨w4.heap.size, kk, none⟩ (.int .u8 v)).drew) := Below.drew (hB.out.setCell (p := ⟨w4.heap.size, kk, none⟩) (Nat.le_of_lt BA0.out) (.int .u8 v))
        have BAV0 : Box (W.setCell ⟨w4.heap.size, kk, none⟩ (.int .u8 v)) w.heap.size #[.slice ra m.regs.length rc, .slice ca m.comps.length cc, .slice ga m.gates.length gc, .int .i64 m.depth] 41 := BA.out.kept (grown_set W w4.heap.size kk (.int .u8 v)) (by have := BA0.out; omega)
        have BAV : Box ((W.setCell ⟨w4.heap.size, kk, none⟩ (.int .u8 v)).drew) w.heap.size #[.slice ra m.regs.length rc, .slice ca m.comps.length cc, .slice ga m.gates.length gc, .int .i64 m.depth] 41 := BAV0
        clear BAV0
        replace hBV := Hid.mk hBV
        replace BAV := Hid.mk BAV
        clear hcs hG hB BA
        by_cases hd : (decI (S.set kk (UInt8.ofNat v))).2.1 = 0
        · have hdm : m.eqB (decI (S.set kk (UInt8.ofNat v))).1 = false := by
            cases hq : m.eqB (decI (S.set kk (UInt8.ofNat v))).1 with
            | false => rfl
            | true => exact absurd (hback.out _ hd ((PImg.eqB_iff _ _).1 hq).symm) hsne.out
          have hd2 : ((decI (S.set kk (UInt8.ofNat v))).2.1 != 0) = false := by simpa using hd
          generalize decI (S.set kk (UInt8.ofNat v)) = dd at *
          obtain ⟨o, g, pl⟩ := dd
          simp only at hd hd2 hdm
          replace hd := Hid.mk hd
          go_wp2_with fail
          go_region
          go_wp2_with fail
          refine (hD _ (hT.out _ hBV.out)).mono ?_
          rintro x w5 ⟨oa, oc, pa, pc, qa, qc, rfl, hO, hB5⟩
          replace BAV := BAV.out.below hB5 BAV.out.lt
          replace hB := Hid.mk (hBV.out.trans (hB5.mono hBV.out.size))
          have hG6 : Gr w5 (w5.alloc (.cells #[.slice oa o.regs.length oc, .slice pa o.comps.length pc, .slice qa o.gates.length qc, .int .i64 o.depth] 41)) := (Gr.refl w5).alloc _
          replace hO := hO.step (grown_of hG6.below none) (ne7_none _)
          replace BAV := BAV.gr hG6
          replace hB := Hid.mk (hB.out.trans (hG6.below.mono hB.out.size))
          have hOI := hO.into
          have OB := Box.new w5 #[.slice oa o.regs.length oc, .slice pa o.comps.length pc, .slice qa o.gates.length qc, .int .i64 o.depth] 41
          have ⟨z2, p2, f2⟩ := BAV.at
          have ⟨z3, p3, f3⟩ := OB.at
          have hsm := hS2 o oa pa qa oc pc qc _ (hI.out _ hB.out) hOI
          replace BAV := Hid.mk BAV
          replace OB := Hid.mk OB
          replace hO := Hid.mk hO
          clear hG6 hB5 hD hbs2 hcv hS2 hBV q0 qf hOI
          rw [hdm] at hsm
          go_wp2_with fail
          refine hsm.mono ?_
          rintro x w7 ⟨rfl, hG7⟩
          replace hB := Hid.mk (hB.out.trans (hG7.below.mono hB.out.size))
          clear hG7 hsm z2 p2 f2 z3 p3 f3
          go_wp2_with fail
          go_ret
          exact ⟨rfl, hB.out⟩
        · have hd2 : ((decI (S.set kk (UInt8.ofNat v))).2.1 != 0) = true := by simpa using hd
          generalize decI (S.set kk (UInt8.ofNat v)) = dd at *
          obtain ⟨o, g, pl⟩ := dd
          simp only at hd hd2
          replace hd := Hid.mk hd
          go_wp2_with fail
          go_region
          go_wp2_with fail
          refine (hD _ (hT.out _ hBV.out)).mono ?_
          rintro x w5 ⟨oa, oc, pa, pc, qa, qc, rfl, hO, hB5⟩
          replace BAV := BAV.out.below hB5 BAV.out.lt
          replace hB := Hid.mk (hBV.out.trans (hB5.mono hBV.out.size))
          have hG6 : Gr w5 (w5.alloc (.cells #[.slice oa o.regs.length oc, .slice pa o.comps.length pc, .slice qa o.gates.length qc, .int .i64 o.depth] 41)) := (Gr.refl w5).alloc _
          replace hO := hO.step (grown_of hG6.below none) (ne7_none _)
          replace BAV := BAV.gr hG6
          replace hB := Hid.mk (hB.out.trans (hG6.below.mono hB.out.size))
          have hOI := hO.into
          have OB := Box.new w5 #[.slice oa o.regs.length oc, .slice pa o.comps.length pc, .slice qa o.gates.length qc, .int .i64 o.depth] 41
          have ⟨z2, p2, f2⟩ := BAV.at
          have ⟨z3, p3, f3⟩ := OB.at
          have hsm := hS2 o oa pa qa oc pc qc _ (hI.out _ hB.out) hOI
          replace BAV := Hid.mk BAV
          replace OB := Hid.mk OB
          replace hO := Hid.mk hO
          clear hG6 hB5 hD hbs2 hcv hS2 hBV q0 qf hOI
          generalize m.eqB o = rr at hsm
          go_wp2_with fail
          refine hsm.mono ?_
          rintro x w7 ⟨rfl, hG7⟩
          replace hB := Hid.mk (hB.out.trans (hG7.below.mono hB.out.size))
          clear hG7 hsm z2 p2 f2 z3 p3 f3
          go_wp2_with fail
          go_ret
          exact ⟨rfl, hB.out⟩

    obtain ⟨P, hP⟩ : ∃ P, -(at_ + 1) = P := ⟨_, rfl⟩
    have hP0 : 0 ≤ P := by omega
    have P1 : IntKind.i64.wrap (at_ + 1) = at_ + 1 := by rw [IntKind.wrap_i64]; omega
    have P2 : IntKind.i64.wrap (-(at_ + 1)) = P := by rw [IntKind.wrap_i64]; omega
    replace hP := Hid.mk hP
    have sQ : ¬ by_ < 0 := by omega
    have hQ0 : 0 ≤ by_ := by omega
    have hPL := Int.tmod_lt_of_pos P (b := (S.length : Int)) (by omega)
    obtain ⟨kk, hkk⟩ : ∃ kk : Nat, Int.tmod P (S.length : Int) = kk := ⟨_, (Int.toNat_of_nonneg (Int.tmod_nonneg _ hP0)).symm⟩
    rw [hkk] at hPL
    have hk : kk < S.length := by omega
    have hQL := Int.tmod_lt_of_pos by_ (b := 255) (by omega)
    obtain ⟨u, hu⟩ : ∃ u : Nat, Int.tmod by_ 255 = u := ⟨_, (Int.toNat_of_nonneg (Int.tmod_nonneg _ hQ0)).symm⟩
    rw [hu] at hQL
    have u1 : IntKind.i64.wrap (1 + (u : Int)) = 1 + (u : Int) := by rw [IntKind.wrap_i64]; omega
    have u2 : IntKind.u8.wrap (1 + (u : Int)) = 1 + (u : Int) := by rw [IntKind.wrap_u8]; omega
    obtain ⟨v, hx, hv, hvn⟩ := xor_other S[kk].toNat (1 + u) S[kk].toNat_lt (by omega) (by omega)
    have e1u : ((1 + u : Nat) : Int) = 1 + (u : Int) := by omega
    rw [e1u] at hx
    have hsne := Hid.mk (set_ne S kk v hk hv hvn)
    have hD := fun W (h0 : TabIn W) => imgDecode_any (S.set kk (UInt8.ofNat v)) W h0
    have hl3 : (S.length : Int) ≤ 40000 := by omega
    have hk3 : (kk : Int) < S.length := by omega
    have hk4 : (0 : Int) ≤ kk := by omega
    have gl : ((S.length : Int) == 0) = false := beq_false_of_ne (by omega)
    by_cases hf : (encI n).2 = 0
    case neg =>
      have g3 : ((encI n).2 == 0) = false := by simpa using hf
      have BA0 := Hid.mk BA.out.lt
      generalize encI n = q2 at *
      replace hf := Hid.mk hf
      obtain ⟨c, W, hcv, hG, hcs, hX⟩ := bytes_free S w3
      have hbs2 := back_string S kk v W w3.heap.size c hk hv (fun j hj => (hcs j hj).1)
      replace hB := Hid.mk (hB.out.trans (hG.below.mono hB.out.size))
      replace BA := Hid.mk (BA.out.gr hG)
      obtain ⟨q0, qf⟩ := hcs kk hk
      have hBV : Below w.heap.size w ((W.setCell ⟨w3.heap.size, kk, none⟩ (.int .u8 v)).drew) := Below.drew (hB.out.setCell (p := ⟨w3.heap.size, kk, none⟩) (Nat.le_of_lt BA0.out) (.int .u8 v))
      have BAV0 : Box (W.setCell ⟨w3.heap.size, kk, none⟩ (.int .u8 v)) w.heap.size #[.slice ra m.regs.length rc, .slice ca m.comps.length cc, .slice ga m.gates.length gc, .int .i64 m.depth] 41 := BA.out.kept (grown_set W w3.heap.size kk (.int .u8 v)) (by have := BA0.out; omega)
      have BAV : Box ((W.setCell ⟨w3.heap.size, kk, none⟩ (.int .u8 v)).drew) w.heap.size #[.slice ra m.regs.length rc, .slice ca m.comps.length cc, .slice ga m.gates.length gc, .int .i64 m.depth] 41 := BAV0
      clear BAV0
      replace hBV := Hid.mk hBV
      replace BAV := Hid.mk BAV
      clear hcs hG hB BA
      by_cases hd : (decI (S.set kk (UInt8.ofNat v))).2.1 = 0
      · have hdm : m.eqB (decI (S.set kk (UInt8.ofNat v))).1 = false := by
          cases hq : m.eqB (decI (S.set kk (UInt8.ofNat v))).1 with
          | false => rfl
          | true => exact absurd (hback.out _ hd ((PImg.eqB_iff _ _).1 hq).symm) hsne.out
        have hd2 : ((decI (S.set kk (UInt8.ofNat v))).2.1 != 0) = false := by simpa using hd
        generalize decI (S.set kk (UInt8.ofNat v)) = dd at *
        obtain ⟨o, g, pl⟩ := dd
        simp only at hd hd2 hdm
        replace hd := Hid.mk hd
        go_wp2_with fail
        go_region
        go_wp2_with fail
        refine (hD _ (hT.out _ hBV.out)).mono ?_
        rintro x w5 ⟨oa, oc, pa, pc, qa, qc, rfl, hO, hB5⟩
        replace BAV := BAV.out.below hB5 BAV.out.lt
        replace hB := Hid.mk (hBV.out.trans (hB5.mono hBV.out.size))
        have hG6 : Gr w5 (w5.alloc (.cells #[.slice oa o.regs.length oc, .slice pa o.comps.length pc, .slice qa o.gates.length qc, .int .i64 o.depth] 41)) := (Gr.refl w5).alloc _
        replace hO := hO.step (grown_of hG6.below none) (ne7_none _)
        replace BAV := BAV.gr hG6
        replace hB := Hid.mk (hB.out.trans (hG6.below.mono hB.out.size))
        have hOI := hO.into
        have OB := Box.new w5 #[.slice oa o.regs.length oc, .slice pa o.comps.length pc, .slice qa o.gates.length qc, .int .i64 o.depth] 41
        have ⟨z2, p2, f2⟩ := BAV.at
        have ⟨z3, p3, f3⟩ := OB.at
        have hsm := hS2 o oa pa qa oc pc qc _ (hI.out _ hB.out) hOI
        replace BAV := Hid.mk BAV
        replace OB := Hid.mk OB
        replace hO := Hid.mk hO
        clear hG6 hB5 hD hbs2 hcv hS2 hBV q0 qf hOI
        rw [hdm] at hsm
        go_wp2_with fail
        refine hsm.mono ?_
        rintro x w7 ⟨rfl, hG7⟩
        replace hB := Hid.mk (hB.out.trans (hG7.below.mono hB.out.size))
        clear hG7 hsm z2 p2 f2 z3 p3 f3
        go_wp2_with fail
        go_ret
        exact ⟨rfl, hB.out⟩
      · have hd2 : ((decI (S.set kk (UInt8.ofNat v))).2.1 != 0) = true := by simpa using hd
        generalize decI (S.set kk (UInt8.ofNat v)) = dd at *
        obtain ⟨o, g, pl⟩ := dd
        simp only at hd hd2
        replace hd := Hid.mk hd
        go_wp2_with fail
        go_region
        go_wp2_with fail
        refine (hD _ (hT.out _ hBV.out)).mono ?_
        rintro x w5 ⟨oa, oc, pa, pc, qa, qc, rfl, hO, hB5⟩
        replace BAV := BAV.out.below hB5 BAV.out.lt
        replace hB := Hid.mk (hBV.out.trans (hB5.mono hBV.out.size))
        have hG6 : Gr w5 (w5.alloc (.cells #[.slice oa o.regs.length oc, .slice pa o.comps.length pc, .slice qa o.gates.length qc, .int .i64 o.depth] 41)) := (Gr.refl w5).alloc _
        replace hO := hO.step (grown_of hG6.below none) (ne7_none _)
        replace BAV := BAV.gr hG6
        replace hB := Hid.mk (hB.out.trans (hG6.below.mono hB.out.size))
        have hOI := hO.into
        have OB := Box.new w5 #[.slice oa o.regs.length oc, .slice pa o.comps.length pc, .slice qa o.gates.length qc, .int .i64 o.depth] 41
        have ⟨z2, p2, f2⟩ := BAV.at
        have ⟨z3, p3, f3⟩ := OB.at
        have hsm := hS2 o oa pa qa oc pc qc _ (hI.out _ hB.out) hOI
        replace BAV := Hid.mk BAV
        replace OB := Hid.mk OB
        replace hO := Hid.mk hO
        clear hG6 hB5 hD hbs2 hcv hS2 hBV q0 qf hOI
        generalize m.eqB o = rr at hsm
        go_wp2_with fail
        refine hsm.mono ?_
        rintro x w7 ⟨rfl, hG7⟩
        replace hB := Hid.mk (hB.out.trans (hG7.below.mono hB.out.size))
        clear hG7 hsm z2 p2 f2 z3 p3 f3
        go_wp2_with fail
        go_ret
        exact ⟨rfl, hB.out⟩
    have g3 : ((encI n).2 == 0) = true := by simpa using hf
    have hkey2 := hkey hf
    generalize encI n = q2 at *
    obtain ⟨T2, f2⟩ := q2
    simp only at hf g3 hkey2 hkey
    clear hkey
    replace hf := Hid.mk hf
    have hsm := hS1 _ (hI.out _ hB.out) (hJ.out _ hB.out)
    have s2 := str_list S
    have s3 := str_list T2
    by_cases hst : S = T2
    · have hms := hkey2.2 hst
      rw [hms] at hsm
      have hst2 : (str S).toList = (str T2).toList := by rw [hst]
      replace hst := Hid.mk hst
      clear hkey2 s2 s3
      replace hms := Hid.mk hms
      go_wp2_with fail
      refine hsm.mono ?_
      rintro x w4 ⟨rfl, hG4⟩
      replace hB := Hid.mk (hB.out.trans (hG4.below.mono hB.out.size))
      replace BA := Hid.mk (BA.out.gr hG4)
      have BA0 := Hid.mk BA.out.lt
      clear hG4 hsm z0 p0 f0 z1 p1 f1
      obtain ⟨c, W, hcv, hG, hcs, hX⟩ := bytes_free S w4
      have hbs2 := back_string S kk v W w4.heap.size c hk hv (fun j hj => (hcs j hj).1)
      replace hB := Hid.mk (hB.out.trans (hG.below.mono hB.out.size))
      replace BA := Hid.mk (BA.out.gr hG)
      obtain ⟨q0, qf⟩ := hcs kk hk
      have hBV : Below w.heap.size w ((W.setCell ⟨w4.heap.size, kk, none⟩ (.int .u8 v)).drew) := Below.drew (hB.out.setCell (p := ⟨w4.heap.size, kk, none⟩) (Nat.le_of_lt BA0.out) (.int .u8 v))
      have BAV0 : Box (W.setCell ⟨w4.heap.size, kk, none⟩ (.int .u8 v)) w.heap.size #[.slice ra m.regs.length rc, .slice ca m.comps.length cc, .slice ga m.gates.length gc, .int .i64 m.depth] 41 := BA.out.kept (grown_set W w4.heap.size kk (.int .u8 v)) (by have := BA0.out; omega)
      have BAV : Box ((W.setCell ⟨w4.heap.size, kk, none⟩ (.int .u8 v)).drew) w.heap.size #[.slice ra m.regs.length rc, .slice ca m.comps.length cc, .slice ga m.gates.length gc, .int .i64 m.depth] 41 := BAV0
      clear BAV0
      replace hBV := Hid.mk hBV
      replace BAV := Hid.mk BAV
      clear hcs hG hB BA
      by_cases hd : (decI (S.set kk (UInt8.ofNat v))).2.1 = 0
      · have hdm : m.eqB (decI (S.set kk (UInt8.ofNat v))).1 = false := by
          cases hq : m.eqB (decI (S.set kk (UInt8.ofNat v))).1 with
          | false => rfl
          | true => exact absurd (hback.out _ hd ((PImg.eqB_iff _ _).1 hq).symm) hsne.out
        have hd2 : ((decI (S.set kk (UInt8.ofNat v))).2.1 != 0) = false := by simpa using hd
        generalize decI (S.set kk (UInt8.ofNat v)) = dd at *
        obtain ⟨o, g, pl⟩ := dd
        simp only at hd hd2 hdm
        replace hd := Hid.mk hd
        go_wp2_with fail
        go_region
        go_wp2_with fail
        refine (hD _ (hT.out _ hBV.out)).mono ?_
        rintro x w5 ⟨oa, oc, pa, pc, qa, qc, rfl, hO, hB5⟩
        replace BAV := BAV.out.below hB5 BAV.out.lt
        replace hB := Hid.mk (hBV.out.trans (hB5.mono hBV.out.size))
        have hG6 : Gr w5 (w5.alloc (.cells #[.slice oa o.regs.length oc, .slice pa o.comps.length pc, .slice qa o.gates.length qc, .int .i64 o.depth] 41)) := (Gr.refl w5).alloc _
        replace hO := hO.step (grown_of hG6.below none) (ne7_none _)
        replace BAV := BAV.gr hG6
        replace hB := Hid.mk (hB.out.trans (hG6.below.mono hB.out.size))
        have hOI := hO.into
        have OB := Box.new w5 #[.slice oa o.regs.length oc, .slice pa o.comps.length pc, .slice qa o.gates.length qc, .int .i64 o.depth] 41
        have ⟨z2, p2, f2⟩ := BAV.at
        have ⟨z3, p3, f3⟩ := OB.at
        have hsm := hS2 o oa pa qa oc pc qc _ (hI.out _ hB.out) hOI
        replace BAV := Hid.mk BAV
        replace OB := Hid.mk OB
        replace hO := Hid.mk hO
        clear hG6 hB5 hD hbs2 hcv hS2 hBV q0 qf hOI
        rw [hdm] at hsm
        go_wp2_with fail
        refine hsm.mono ?_
        rintro x w7 ⟨rfl, hG7⟩
        replace hB := Hid.mk (hB.out.trans (hG7.below.mono hB.out.size))
        clear hG7 hsm z2 p2 f2 z3 p3 f3
        go_wp2_with fail
        go_ret
        exact ⟨rfl, hB.out⟩
      · have hd2 : ((decI (S.set kk (UInt8.ofNat v))).2.1 != 0) = true := by simpa using hd
        generalize decI (S.set kk (UInt8.ofNat v)) = dd at *
        obtain ⟨o, g, pl⟩ := dd
        simp only at hd hd2
        replace hd := Hid.mk hd
        go_wp2_with fail
        go_region
        go_wp2_with fail
        refine (hD _ (hT.out _ hBV.out)).mono ?_
        rintro x w5 ⟨oa, oc, pa, pc, qa, qc, rfl, hO, hB5⟩
        replace BAV := BAV.out.below hB5 BAV.out.lt
        replace hB := Hid.mk (hBV.out.trans (hB5.mono hBV.out.size))
        have hG6 : Gr w5 (w5.alloc (.cells #[.slice oa o.regs.length oc, .slice pa o.comps.length pc, .slice qa o.gates.length qc, .int .i64 o.depth] 41)) := (Gr.refl w5).alloc _
        replace hO := hO.step (grown_of hG6.below none) (ne7_none _)
        replace BAV := BAV.gr hG6
        replace hB := Hid.mk (hB.out.trans (hG6.below.mono hB.out.size))
        have hOI := hO.into
        have OB := Box.new w5 #[.slice oa o.regs.length oc, .slice pa o.comps.length pc, .slice qa o.gates.length qc, .int .i64 o.depth] 41
        have ⟨z2, p2, f2⟩ := BAV.at
        have ⟨z3, p3, f3⟩ := OB.at
        have hsm := hS2 o oa pa qa oc pc qc _ (hI.out _ hB.out) hOI
        replace BAV := Hid.mk BAV
        replace OB := Hid.mk OB
        replace hO := Hid.mk hO
        clear hG6 hB5 hD hbs2 hcv hS2 hBV q0 qf hOI
        generalize m.eqB o = rr at hsm
        go_wp2_with fail
        refine hsm.mono ?_
        rintro x w7 ⟨rfl, hG7⟩
        replace hB := Hid.mk (hB.out.trans (hG7.below.mono hB.out.size))
        clear hG7 hsm z2 p2 f2 z3 p3 f3
        go_wp2_with fail
        go_ret
        exact ⟨rfl, hB.out⟩
    · have hms : m.eqB n = false := by
        cases hq : m.eqB n with
        | false => rfl
        | true => exact absurd (hkey2.1 hq) hst
      rw [hms] at hsm
      have hst2 : ((str S).toList == (str T2).toList) = false := by rw [s2, s3]; exact beq_false_of_ne hst
      replace hst := Hid.mk hst
      clear hkey2 s2 s3
      replace hms := Hid.mk hms
      go_wp2_with fail
      refine hsm.mono ?_
      rintro x w4 ⟨rfl, hG4⟩
      replace hB := Hid.mk (hB.out.trans (hG4.below.mono hB.out.size))
      replace BA := Hid.mk (BA.out.gr hG4)
      have BA0 := Hid.mk BA.out.lt
      clear hG4 hsm z0 p0 f0 z1 p1 f1
      obtain ⟨c, W, hcv, hG, hcs, hX⟩ := bytes_free S w4
      have hbs2 := back_string S kk v W w4.heap.size c hk hv (fun j hj => (hcs j hj).1)
      replace hB := Hid.mk (hB.out.trans (hG.below.mono hB.out.size))
      replace BA := Hid.mk (BA.out.gr hG)
      obtain ⟨q0, qf⟩ := hcs kk hk
      have hBV : Below w.heap.size w ((W.setCell ⟨w4.heap.size, kk, none⟩ (.int .u8 v)).drew) := Below.drew (hB.out.setCell (p := ⟨w4.heap.size, kk, none⟩) (Nat.le_of_lt BA0.out) (.int .u8 v))
      have BAV0 : Box (W.setCell ⟨w4.heap.size, kk, none⟩ (.int .u8 v)) w.heap.size #[.slice ra m.regs.length rc, .slice ca m.comps.length cc, .slice ga m.gates.length gc, .int .i64 m.depth] 41 := BA.out.kept (grown_set W w4.heap.size kk (.int .u8 v)) (by have := BA0.out; omega)
      have BAV : Box ((W.setCell ⟨w4.heap.size, kk, none⟩ (.int .u8 v)).drew) w.heap.size #[.slice ra m.regs.length rc, .slice ca m.comps.length cc, .slice ga m.gates.length gc, .int .i64 m.depth] 41 := BAV0
      clear BAV0
      replace hBV := Hid.mk hBV
      replace BAV := Hid.mk BAV
      clear hcs hG hB BA
      by_cases hd : (decI (S.set kk (UInt8.ofNat v))).2.1 = 0
      · have hdm : m.eqB (decI (S.set kk (UInt8.ofNat v))).1 = false := by
          cases hq : m.eqB (decI (S.set kk (UInt8.ofNat v))).1 with
          | false => rfl
          | true => exact absurd (hback.out _ hd ((PImg.eqB_iff _ _).1 hq).symm) hsne.out
        have hd2 : ((decI (S.set kk (UInt8.ofNat v))).2.1 != 0) = false := by simpa using hd
        generalize decI (S.set kk (UInt8.ofNat v)) = dd at *
        obtain ⟨o, g, pl⟩ := dd
        simp only at hd hd2 hdm
        replace hd := Hid.mk hd
        go_wp2_with fail
        go_region
        go_wp2_with fail
        refine (hD _ (hT.out _ hBV.out)).mono ?_
        rintro x w5 ⟨oa, oc, pa, pc, qa, qc, rfl, hO, hB5⟩
        replace BAV := BAV.out.below hB5 BAV.out.lt
        replace hB := Hid.mk (hBV.out.trans (hB5.mono hBV.out.size))
        have hG6 : Gr w5 (w5.alloc (.cells #[.slice oa o.regs.length oc, .slice pa o.comps.length pc, .slice qa o.gates.length qc, .int .i64 o.depth] 41)) := (Gr.refl w5).alloc _
        replace hO := hO.step (grown_of hG6.below none) (ne7_none _)
        replace BAV := BAV.gr hG6
        replace hB := Hid.mk (hB.out.trans (hG6.below.mono hB.out.size))
        have hOI := hO.into
        have OB := Box.new w5 #[.slice oa o.regs.length oc, .slice pa o.comps.length pc, .slice qa o.gates.length qc, .int .i64 o.depth] 41
        have ⟨z2, p2, f2⟩ := BAV.at
        have ⟨z3, p3, f3⟩ := OB.at
        have hsm := hS2 o oa pa qa oc pc qc _ (hI.out _ hB.out) hOI
        replace BAV := Hid.mk BAV
        replace OB := Hid.mk OB
        replace hO := Hid.mk hO
        clear hG6 hB5 hD hbs2 hcv hS2 hBV q0 qf hOI
        rw [hdm] at hsm
        go_wp2_with fail
        refine hsm.mono ?_
        rintro x w7 ⟨rfl, hG7⟩
        replace hB := Hid.mk (hB.out.trans (hG7.below.mono hB.out.size))
        clear hG7 hsm z2 p2 f2 z3 p3 f3
        go_wp2_with fail
        go_ret
        exact ⟨rfl, hB.out⟩
      · have hd2 : ((decI (S.set kk (UInt8.ofNat v))).2.1 != 0) = true := by simpa using hd
        generalize decI (S.set kk (UInt8.ofNat v)) = dd at *
        obtain ⟨o, g, pl⟩ := dd
        simp only at hd hd2
        replace hd := Hid.mk hd
        go_wp2_with fail
        go_region
        go_wp2_with fail
        refine (hD _ (hT.out _ hBV.out)).mono ?_
        rintro x w5 ⟨oa, oc, pa, pc, qa, qc, rfl, hO, hB5⟩
        replace BAV := BAV.out.below hB5 BAV.out.lt
        replace hB := Hid.mk (hBV.out.trans (hB5.mono hBV.out.size))
        have hG6 : Gr w5 (w5.alloc (.cells #[.slice oa o.regs.length oc, .slice pa o.comps.length pc, .slice qa o.gates.length qc, .int .i64 o.depth] 41)) := (Gr.refl w5).alloc _
        replace hO := hO.step (grown_of hG6.below none) (ne7_none _)
        replace BAV := BAV.gr hG6
        replace hB := Hid.mk (hB.out.trans (hG6.below.mono hB.out.size))
        have hOI := hO.into
        have OB := Box.new w5 #[.slice oa o.regs.length oc, .slice pa o.comps.length pc, .slice qa o.gates.length qc, .int .i64 o.depth] 41
        have ⟨z2, p2, f2⟩ := BAV.at
        have ⟨z3, p3, f3⟩ := OB.at
        have hsm := hS2 o oa pa qa oc pc qc _ (hI.out _ hB.out) hOI
        replace BAV := Hid.mk BAV
        replace OB := Hid.mk OB
        replace hO := Hid.mk hO
        clear hG6 hB5 hD hbs2 hcv hS2 hBV q0 qf hOI
        generalize m.eqB o = rr at hsm
        go_wp2_with fail
        refine hsm.mono ?_
        rintro x w7 ⟨rfl, hG7⟩
        replace hB := Hid.mk (hB.out.trans (hG7.below.mono hB.out.size))
        clear hG7 hsm z2 p2 f2 z3 p3 f3
        go_wp2_with fail
        go_ret
        exact ⟨rfl, hB.out⟩

  by_cases sb : by_ < 0
  case pos =>
    have sP : ¬ at_ < 0 := by omega
    have hP0 : 0 ≤ at_ := by omega
    obtain ⟨Q, hQ⟩ : ∃ Q, -(by_ + 1) = Q := ⟨_, rfl⟩
    have hQ0 : 0 ≤ Q := by omega
    have Q1 : IntKind.i64.wrap (by_ + 1) = by_ + 1 := by rw [IntKind.wrap_i64]; omega
    have Q2 : IntKind.i64.wrap (-(by_ + 1)) = Q := by rw [IntKind.wrap_i64]; omega
    replace hQ := Hid.mk hQ
    have hPL := Int.tmod_lt_of_pos at_ (b := (S.length : Int)) (by omega)
    obtain ⟨kk, hkk⟩ : ∃ kk : Nat, Int.tmod at_ (S.length : Int) = kk := ⟨_, (Int.toNat_of_nonneg (Int.tmod_nonneg _ hP0)).symm⟩
    rw [hkk] at hPL
    have hk : kk < S.length := by omega
    have hQL := Int.tmod_lt_of_pos Q (b := 255) (by omega)
    obtain ⟨u, hu⟩ : ∃ u : Nat, Int.tmod Q 255 = u := ⟨_, (Int.toNat_of_nonneg (Int.tmod_nonneg _ hQ0)).symm⟩
    rw [hu] at hQL
    have u1 : IntKind.i64.wrap (1 + (u : Int)) = 1 + (u : Int) := by rw [IntKind.wrap_i64]; omega
    have u2 : IntKind.u8.wrap (1 + (u : Int)) = 1 + (u : Int) := by rw [IntKind.wrap_u8]; omega
    obtain ⟨v, hx, hv, hvn⟩ := xor_other S[kk].toNat (1 + u) S[kk].toNat_lt (by omega) (by omega)
    have e1u : ((1 + u : Nat) : Int) = 1 + (u : Int) := by omega
    rw [e1u] at hx
    have hsne := Hid.mk (set_ne S kk v hk hv hvn)
    have hD := fun W (h0 : TabIn W) => imgDecode_any (S.set kk (UInt8.ofNat v)) W h0
    have hl3 : (S.length : Int) ≤ 40000 := by omega
    have hk3 : (kk : Int) < S.length := by omega
    have hk4 : (0 : Int) ≤ kk := by omega
    have gl : ((S.length : Int) == 0) = false := beq_false_of_ne (by omega)
    by_cases hf : (encI n).2 = 0
    case neg =>
      have g3 : ((encI n).2 == 0) = false := by simpa using hf
      have BA0 := Hid.mk BA.out.lt
      generalize encI n = q2 at *
      replace hf := Hid.mk hf
      obtain ⟨c, W, hcv, hG, hcs, hX⟩ := bytes_free S w3
      have hbs2 := back_string S kk v W w3.heap.size c hk hv (fun j hj => (hcs j hj).1)
      replace hB := Hid.mk (hB.out.trans (hG.below.mono hB.out.size))
      replace BA := Hid.mk (BA.out.gr hG)
      obtain ⟨q0, qf⟩ := hcs kk hk
      have hBV : Below w.heap.size w ((W.setCell ⟨w3.heap.size, kk, none⟩ (.int .u8 v)).drew) := Below.drew (hB.out.setCell (p := ⟨w3.heap.size, kk, none⟩) (Nat.le_of_lt BA0.out) (.int .u8 v))
      have BAV0 : Box (W.setCell ⟨w3.heap.size, kk, none⟩ (.int .u8 v)) w.heap.size #[.slice ra m.regs.length rc, .slice ca m.comps.length cc, .slice ga m.gates.length gc, .int .i64 m.depth] 41 := BA.out.kept (grown_set W w3.heap.size kk (.int .u8 v)) (by have := BA0.out; omega)
      have BAV : Box ((W.setCell ⟨w3.heap.size, kk, none⟩ (.int .u8 v)).drew) w.heap.size #[.slice ra m.regs.length rc, .slice ca m.comps.length cc, .slice ga m.gates.length gc, .int .i64 m.depth] 41 := BAV0
      clear BAV0
      replace hBV := Hid.mk hBV
      replace BAV := Hid.mk BAV
      clear hcs hG hB BA
      by_cases hd : (decI (S.set kk (UInt8.ofNat v))).2.1 = 0
      · have hdm : m.eqB (decI (S.set kk (UInt8.ofNat v))).1 = false := by
          cases hq : m.eqB (decI (S.set kk (UInt8.ofNat v))).1 with
          | false => rfl
          | true => exact absurd (hback.out _ hd ((PImg.eqB_iff _ _).1 hq).symm) hsne.out
        have hd2 : ((decI (S.set kk (UInt8.ofNat v))).2.1 != 0) = false := by simpa using hd
        generalize decI (S.set kk (UInt8.ofNat v)) = dd at *
        obtain ⟨o, g, pl⟩ := dd
        simp only at hd hd2 hdm
        replace hd := Hid.mk hd
        go_wp2_with fail
        go_region
        go_wp2_with fail
        refine (hD _ (hT.out _ hBV.out)).mono ?_
        rintro x w5 ⟨oa, oc, pa, pc, qa, qc, rfl, hO, hB5⟩
        replace BAV := BAV.out.below hB5 BAV.out.lt
        replace hB := Hid.mk (hBV.out.trans (hB5.mono hBV.out.size))
        have hG6 : Gr w5 (w5.alloc (.cells #[.slice oa o.regs.length oc, .slice pa o.comps.length pc, .slice qa o.gates.length qc, .int .i64 o.depth] 41)) := (Gr.refl w5).alloc _
        replace hO := hO.step (grown_of hG6.below none) (ne7_none _)
        replace BAV := BAV.gr hG6
        replace hB := Hid.mk (hB.out.trans (hG6.below.mono hB.out.size))
        have hOI := hO.into
        have OB := Box.new w5 #[.slice oa o.regs.length oc, .slice pa o.comps.length pc, .slice qa o.gates.length qc, .int .i64 o.depth] 41
        have ⟨z2, p2, f2⟩ := BAV.at
        have ⟨z3, p3, f3⟩ := OB.at
        have hsm := hS2 o oa pa qa oc pc qc _ (hI.out _ hB.out) hOI
        replace BAV := Hid.mk BAV
        replace OB := Hid.mk OB
        replace hO := Hid.mk hO
        clear hG6 hB5 hD hbs2 hcv hS2 hBV q0 qf hOI
        rw [hdm] at hsm
        go_wp2_with fail
        refine hsm.mono ?_
        rintro x w7 ⟨rfl, hG7⟩
        replace hB := Hid.mk (hB.out.trans (hG7.below.mono hB.out.size))
        clear hG7 hsm z2 p2 f2 z3 p3 f3
        go_wp2_with fail
        go_ret
        exact ⟨rfl, hB.out⟩
      · have hd2 : ((decI (S.set kk (UInt8.ofNat v))).2.1 != 0) = true := by simpa using hd
        generalize decI (S.set kk (UInt8.ofNat v)) = dd at *
        obtain ⟨o, g, pl⟩ := dd
        simp only at hd hd2
        replace hd := Hid.mk hd
        go_wp2_with fail
        go_region
        go_wp2_with fail
        refine (hD _ (hT.out _ hBV.out)).mono ?_
        rintro x w5 ⟨oa, oc, pa, pc, qa, qc, rfl, hO, hB5⟩
        replace BAV := BAV.out.below hB5 BAV.out.lt
        replace hB := Hid.mk (hBV.out.trans (hB5.mono hBV.out.size))
        have hG6 : Gr w5 (w5.alloc (.cells #[.slice oa o.regs.length oc, .slice pa o.comps.length pc, .slice qa o.gates.length qc, .int .i64 o.depth] 41)) := (Gr.refl w5).alloc _
        replace hO := hO.step (grown_of hG6.below none) (ne7_none _)
        replace BAV := BAV.gr hG6
        replace hB := Hid.mk (hB.out.trans (hG6.below.mono hB.out.size))
        have hOI := hO.into
        have OB := Box.new w5 #[.slice oa o.regs.length oc, .slice pa o.comps.length pc, .slice qa o.gates.length qc, .int .i64 o.depth] 41
        have ⟨z2, p2, f2⟩ := BAV.at
        have ⟨z3, p3, f3⟩ := OB.at
        have hsm := hS2 o oa pa qa oc pc qc _ (hI.out _ hB.out) hOI
        replace BAV := Hid.mk BAV
        replace OB := Hid.mk OB
        replace hO := Hid.mk hO
        clear hG6 hB5 hD hbs2 hcv hS2 hBV q0 qf hOI
        generalize m.eqB o = rr at hsm
        go_wp2_with fail
        refine hsm.mono ?_
        rintro x w7 ⟨rfl, hG7⟩
        replace hB := Hid.mk (hB.out.trans (hG7.below.mono hB.out.size))
        clear hG7 hsm z2 p2 f2 z3 p3 f3
        go_wp2_with fail
        go_ret
        exact ⟨rfl, hB.out⟩
    have g3 : ((encI n).2 == 0) = true := by simpa using hf
    have hkey2 := hkey hf
    generalize encI n = q2 at *
    obtain ⟨T2, f2⟩ := q2
    simp only at hf g3 hkey2 hkey
    clear hkey
    replace hf := Hid.mk hf
    have hsm := hS1 _ (hI.out _ hB.out) (hJ.out _ hB.out)
    have s2 := str_list S
    have s3 := str_list T2
    by_cases hst : S = T2
    · have hms := hkey2.2 hst
      rw [hms] at hsm
      have hst2 : (str S).toList = (str T2).toList := by rw [hst]
      replace hst := Hid.mk hst
      clear hkey2 s2 s3
      replace hms := Hid.mk hms
      go_wp2_with fail
      refine hsm.mono ?_
      rintro x w4 ⟨rfl, hG4⟩
      replace hB := Hid.mk (hB.out.trans (hG4.below.mono hB.out.size))
      replace BA := Hid.mk (BA.out.gr hG4)
      have BA0 := Hid.mk BA.out.lt
      clear hG4 hsm z0 p0 f0 z1 p1 f1
      obtain ⟨c, W, hcv, hG, hcs, hX⟩ := bytes_free S w4
      have hbs2 := back_string S kk v W w4.heap.size c hk hv (fun j hj => (hcs j hj).1)
      replace hB := Hid.mk (hB.out.trans (hG.below.mono hB.out.size))
      replace BA := Hid.mk (BA.out.gr hG)
      obtain ⟨q0, qf⟩ := hcs kk hk
      have hBV : Below w.heap.size w ((W.setCell ⟨w4.heap.size, kk, none⟩ (.int .u8 v)).drew) := Below.drew (hB.out.setCell (p := ⟨w4.heap.size, kk, none⟩) (Nat.le_of_lt BA0.out) (.int .u8 v))
      have BAV0 : Box (W.setCell ⟨w4.heap.size, kk, none⟩ (.int .u8 v)) w.heap.size #[.slice ra m.regs.length rc, .slice ca m.comps.length cc, .slice ga m.gates.length gc, .int .i64 m.depth] 41 := BA.out.kept (grown_set W w4.heap.size kk (.int .u8 v)) (by have := BA0.out; omega)
      have BAV : Box ((W.setCell ⟨w4.heap.size, kk, none⟩ (.int .u8 v)).drew) w.heap.size #[.slice ra m.regs.length rc, .slice ca m.comps.length cc, .slice ga m.gates.length gc, .int .i64 m.depth] 41 := BAV0
      clear BAV0
      replace hBV := Hid.mk hBV
      replace BAV := Hid.mk BAV
      clear hcs hG hB BA
      by_cases hd : (decI (S.set kk (UInt8.ofNat v))).2.1 = 0
      · have hdm : m.eqB (decI (S.set kk (UInt8.ofNat v))).1 = false := by
          cases hq : m.eqB (decI (S.set kk (UInt8.ofNat v))).1 with
          | false => rfl
          | true => exact absurd (hback.out _ hd ((PImg.eqB_iff _ _).1 hq).symm) hsne.out
        have hd2 : ((decI (S.set kk (UInt8.ofNat v))).2.1 != 0) = false := by simpa using hd
        generalize decI (S.set kk (UInt8.ofNat v)) = dd at *
        obtain ⟨o, g, pl⟩ := dd
        simp only at hd hd2 hdm
        replace hd := Hid.mk hd
        go_wp2_with fail
        go_region
        go_wp2_with fail
        refine (hD _ (hT.out _ hBV.out)).mono ?_
        rintro x w5 ⟨oa, oc, pa, pc, qa, qc, rfl, hO, hB5⟩
        replace BAV := BAV.out.below hB5 BAV.out.lt
        replace hB := Hid.mk (hBV.out.trans (hB5.mono hBV.out.size))
        have hG6 : Gr w5 (w5.alloc (.cells #[.slice oa o.regs.length oc, .slice pa o.comps.length pc, .slice qa o.gates.length qc, .int .i64 o.depth] 41)) := (Gr.refl w5).alloc _
        replace hO := hO.step (grown_of hG6.below none) (ne7_none _)
        replace BAV := BAV.gr hG6
        replace hB := Hid.mk (hB.out.trans (hG6.below.mono hB.out.size))
        have hOI := hO.into
        have OB := Box.new w5 #[.slice oa o.regs.length oc, .slice pa o.comps.length pc, .slice qa o.gates.length qc, .int .i64 o.depth] 41
        have ⟨z2, p2, f2⟩ := BAV.at
        have ⟨z3, p3, f3⟩ := OB.at
        have hsm := hS2 o oa pa qa oc pc qc _ (hI.out _ hB.out) hOI
        replace BAV := Hid.mk BAV
        replace OB := Hid.mk OB
        replace hO := Hid.mk hO
        clear hG6 hB5 hD hbs2 hcv hS2 hBV q0 qf hOI
        rw [hdm] at hsm
        go_wp2_with fail
        refine hsm.mono ?_
        rintro x w7 ⟨rfl, hG7⟩
        replace hB := Hid.mk (hB.out.trans (hG7.below.mono hB.out.size))
        clear hG7 hsm z2 p2 f2 z3 p3 f3
        go_wp2_with fail
        go_ret
        exact ⟨rfl, hB.out⟩
      · have hd2 : ((decI (S.set kk (UInt8.ofNat v))).2.1 != 0) = true := by simpa using hd
        generalize decI (S.set kk (UInt8.ofNat v)) = dd at *
        obtain ⟨o, g, pl⟩ := dd
        simp only at hd hd2
        replace hd := Hid.mk hd
        go_wp2_with fail
        go_region
        go_wp2_with fail
        refine (hD _ (hT.out _ hBV.out)).mono ?_
        rintro x w5 ⟨oa, oc, pa, pc, qa, qc, rfl, hO, hB5⟩
        replace BAV := BAV.out.below hB5 BAV.out.lt
        replace hB := Hid.mk (hBV.out.trans (hB5.mono hBV.out.size))
        have hG6 : Gr w5 (w5.alloc (.cells #[.slice oa o.regs.length oc, .slice pa o.comps.length pc, .slice qa o.gates.length qc, .int .i64 o.depth] 41)) := (Gr.refl w5).alloc _
        replace hO := hO.step (grown_of hG6.below none) (ne7_none _)
        replace BAV := BAV.gr hG6
        replace hB := Hid.mk (hB.out.trans (hG6.below.mono hB.out.size))
        have hOI := hO.into
        have OB := Box.new w5 #[.slice oa o.regs.length oc, .slice pa o.comps.length pc, .slice qa o.gates.length qc, .int .i64 o.depth] 41
        have ⟨z2, p2, f2⟩ := BAV.at
        have ⟨z3, p3, f3⟩ := OB.at
        have hsm := hS2 o oa pa qa oc pc qc _ (hI.out _ hB.out) hOI
        replace BAV := Hid.mk BAV
        replace OB := Hid.mk OB
        replace hO := Hid.mk hO
        clear hG6 hB5 hD hbs2 hcv hS2 hBV q0 qf hOI
        generalize m.eqB o = rr at hsm
        go_wp2_with fail
        refine hsm.mono ?_
        rintro x w7 ⟨rfl, hG7⟩
        replace hB := Hid.mk (hB.out.trans (hG7.below.mono hB.out.size))
        clear hG7 hsm z2 p2 f2 z3 p3 f3
        go_wp2_with fail
        go_ret
        exact ⟨rfl, hB.out⟩
    · have hms : m.eqB n = false := by
        cases hq : m.eqB n with
        | false => rfl
        | true => exact absurd (hkey2.1 hq) hst
      rw [hms] at hsm
      have hst2 : ((str S).toList == (str T2).toList) = false := by rw [s2, s3]; exact beq_false_of_ne hst
      replace hst := Hid.mk hst
      clear hkey2 s2 s3
      replace hms := Hid.mk hms
      go_wp2_with fail
      refine hsm.mono ?_
      rintro x w4 ⟨rfl, hG4⟩
      replace hB := Hid.mk (hB.out.trans (hG4.below.mono hB.out.size))
      replace BA := Hid.mk (BA.out.gr hG4)
      have BA0 := Hid.mk BA.out.lt
      clear hG4 hsm z0 p0 f0 z1 p1 f1
      obtain ⟨c, W, hcv, hG, hcs, hX⟩ := bytes_free S w4
      have hbs2 := back_string S kk v W w4.heap.size c hk hv (fun j hj => (hcs j hj).1)
      replace hB := Hid.mk (hB.out.trans (hG.below.mono hB.out.size))
      replace BA := Hid.mk (BA.out.gr hG)
      obtain ⟨q0, qf⟩ := hcs kk hk
      have hBV : Below w.heap.size w ((W.setCell ⟨w4.heap.size, kk, none⟩ (.int .u8 v)).drew) := Below.drew (hB.out.setCell (p := ⟨w4.heap.size, kk, none⟩) (Nat.le_of_lt BA0.out) (.int .u8 v))
      have BAV0 : Box (W.setCell ⟨w4.heap.size, kk, none⟩ (.int .u8 v)) w.heap.size #[.slice ra m.regs.length rc, .slice ca m.comps.length cc, .slice ga m.gates.length gc, .int .i64 m.depth] 41 := BA.out.kept (grown_set W w4.heap.size kk (.int .u8 v)) (by have := BA0.out; omega)
      have BAV : Box ((W.setCell ⟨w4.heap.size, kk, none⟩ (.int .u8 v)).drew) w.heap.size #[.slice ra m.regs.length rc, .slice ca m.comps.length cc, .slice ga m.gates.length gc, .int .i64 m.depth] 41 := BAV0
      clear BAV0
      replace hBV := Hid.mk hBV
      replace BAV := Hid.mk BAV
      clear hcs hG hB BA
      by_cases hd : (decI (S.set kk (UInt8.ofNat v))).2.1 = 0
      · have hdm : m.eqB (decI (S.set kk (UInt8.ofNat v))).1 = false := by
          cases hq : m.eqB (decI (S.set kk (UInt8.ofNat v))).1 with
          | false => rfl
          | true => exact absurd (hback.out _ hd ((PImg.eqB_iff _ _).1 hq).symm) hsne.out
        have hd2 : ((decI (S.set kk (UInt8.ofNat v))).2.1 != 0) = false := by simpa using hd
        generalize decI (S.set kk (UInt8.ofNat v)) = dd at *
        obtain ⟨o, g, pl⟩ := dd
        simp only at hd hd2 hdm
        replace hd := Hid.mk hd
        go_wp2_with fail
        go_region
        go_wp2_with fail
        refine (hD _ (hT.out _ hBV.out)).mono ?_
        rintro x w5 ⟨oa, oc, pa, pc, qa, qc, rfl, hO, hB5⟩
        replace BAV := BAV.out.below hB5 BAV.out.lt
        replace hB := Hid.mk (hBV.out.trans (hB5.mono hBV.out.size))
        have hG6 : Gr w5 (w5.alloc (.cells #[.slice oa o.regs.length oc, .slice pa o.comps.length pc, .slice qa o.gates.length qc, .int .i64 o.depth] 41)) := (Gr.refl w5).alloc _
        replace hO := hO.step (grown_of hG6.below none) (ne7_none _)
        replace BAV := BAV.gr hG6
        replace hB := Hid.mk (hB.out.trans (hG6.below.mono hB.out.size))
        have hOI := hO.into
        have OB := Box.new w5 #[.slice oa o.regs.length oc, .slice pa o.comps.length pc, .slice qa o.gates.length qc, .int .i64 o.depth] 41
        have ⟨z2, p2, f2⟩ := BAV.at
        have ⟨z3, p3, f3⟩ := OB.at
        have hsm := hS2 o oa pa qa oc pc qc _ (hI.out _ hB.out) hOI
        replace BAV := Hid.mk BAV
        replace OB := Hid.mk OB
        replace hO := Hid.mk hO
        clear hG6 hB5 hD hbs2 hcv hS2 hBV q0 qf hOI
        rw [hdm] at hsm
        go_wp2_with fail
        refine hsm.mono ?_
        rintro x w7 ⟨rfl, hG7⟩
        replace hB := Hid.mk (hB.out.trans (hG7.below.mono hB.out.size))
        clear hG7 hsm z2 p2 f2 z3 p3 f3
        go_wp2_with fail
        go_ret
        exact ⟨rfl, hB.out⟩
      · have hd2 : ((decI (S.set kk (UInt8.ofNat v))).2.1 != 0) = true := by simpa using hd
        generalize decI (S.set kk (UInt8.ofNat v)) = dd at *
        obtain ⟨o, g, pl⟩ := dd
        simp only at hd hd2
        replace hd := Hid.mk hd
        go_wp2_with fail
        go_region
        go_wp2_with fail
        refine (hD _ (hT.out _ hBV.out)).mono ?_
        rintro x w5 ⟨oa, oc, pa, pc, qa, qc, rfl, hO, hB5⟩
        replace BAV := BAV.out.below hB5 BAV.out.lt
        replace hB := Hid.mk (hBV.out.trans (hB5.mono hBV.out.size))
        have hG6 : Gr w5 (w5.alloc (.cells #[.slice oa o.regs.length oc, .slice pa o.comps.length pc, .slice qa o.gates.length qc, .int .i64 o.depth] 41)) := (Gr.refl w5).alloc _
        replace hO := hO.step (grown_of hG6.below none) (ne7_none _)
        replace BAV := BAV.gr hG6
        replace hB := Hid.mk (hB.out.trans (hG6.below.mono hB.out.size))
        have hOI := hO.into
        have OB := Box.new w5 #[.slice oa o.regs.length oc, .slice pa o.comps.length pc, .slice qa o.gates.length qc, .int .i64 o.depth] 41
        have ⟨z2, p2, f2⟩ := BAV.at
        have ⟨z3, p3, f3⟩ := OB.at
        have hsm := hS2 o oa pa qa oc pc qc _ (hI.out _ hB.out) hOI
        replace BAV := Hid.mk BAV
        replace OB := Hid.mk OB
        replace hO := Hid.mk hO
        clear hG6 hB5 hD hbs2 hcv hS2 hBV q0 qf hOI
        generalize m.eqB o = rr at hsm
        go_wp2_with fail
        refine hsm.mono ?_
        rintro x w7 ⟨rfl, hG7⟩
        replace hB := Hid.mk (hB.out.trans (hG7.below.mono hB.out.size))
        clear hG7 hsm z2 p2 f2 z3 p3 f3
        go_wp2_with fail
        go_ret
        exact ⟨rfl, hB.out⟩

  have sP : ¬ at_ < 0 := by omega
  have hP0 : 0 ≤ at_ := by omega
  have sQ : ¬ by_ < 0 := by omega
  have hQ0 : 0 ≤ by_ := by omega
  have hPL := Int.tmod_lt_of_pos at_ (b := (S.length : Int)) (by omega)
  obtain ⟨kk, hkk⟩ : ∃ kk : Nat, Int.tmod at_ (S.length : Int) = kk := ⟨_, (Int.toNat_of_nonneg (Int.tmod_nonneg _ hP0)).symm⟩
  rw [hkk] at hPL
  have hk : kk < S.length := by omega
  have hQL := Int.tmod_lt_of_pos by_ (b := 255) (by omega)
  obtain ⟨u, hu⟩ : ∃ u : Nat, Int.tmod by_ 255 = u := ⟨_, (Int.toNat_of_nonneg (Int.tmod_nonneg _ hQ0)).symm⟩
  rw [hu] at hQL
  have u1 : IntKind.i64.wrap (1 + (u : Int)) = 1 + (u : Int) := by rw [IntKind.wrap_i64]; omega
  have u2 : IntKind.u8.wrap (1 + (u : Int)) = 1 + (u : Int) := by rw [IntKind.wrap_u8]; omega
  obtain ⟨v, hx, hv, hvn⟩ := xor_other S[kk].toNat (1 + u) S[kk].toNat_lt (by omega) (by omega)
  have e1u : ((1 + u : Nat) : Int) = 1 + (u : Int) := by omega
  rw [e1u] at hx
  have hsne := Hid.mk (set_ne S kk v hk hv hvn)
  have hD := fun W (h0 : TabIn W) => imgDecode_any (S.set kk (UInt8.ofNat v)) W h0
  have hl3 : (S.length : Int) ≤ 40000 := by omega
  have hk3 : (kk : Int) < S.length := by omega
  have hk4 : (0 : Int) ≤ kk := by omega
  have gl : ((S.length : Int) == 0) = false := beq_false_of_ne (by omega)
  by_cases hf : (encI n).2 = 0
  case neg =>
    have g3 : ((encI n).2 == 0) = false := by simpa using hf
    have BA0 := Hid.mk BA.out.lt
    generalize encI n = q2 at *
    replace hf := Hid.mk hf
    obtain ⟨c, W, hcv, hG, hcs, hX⟩ := bytes_free S w3
    have hbs2 := back_string S kk v W w3.heap.size c hk hv (fun j hj => (hcs j hj).1)
    replace hB := Hid.mk (hB.out.trans (hG.below.mono hB.out.size))
    replace BA := Hid.mk (BA.out.gr hG)
    obtain ⟨q0, qf⟩ := hcs kk hk
    have hBV : Below w.heap.size w ((W.setCell ⟨w3.heap.size, kk, none⟩ (.int .u8 v)).drew) := Below.drew (hB.out.setCell (p := ⟨w3.heap.size, kk, none⟩) (Nat.le_of_lt BA0.out) (.int .u8 v))
    have BAV0 : Box (W.setCell ⟨w3.heap.size, kk, none⟩ (.int .u8 v)) w.heap.size #[.slice ra m.regs.length rc, .slice ca m.comps.length cc, .slice ga m.gates.length gc, .int .i64 m.depth] 41 := BA.out.kept (grown_set W w3.heap.size kk (.int .u8 v)) (by have := BA0.out; omega)
    have BAV : Box ((W.setCell ⟨w3.heap.size, kk, none⟩ (.int .u8 v)).drew) w.heap.size #[.slice ra m.regs.length rc, .slice ca m.comps.length cc, .slice ga m.gates.length gc, .int .i64 m.depth] 41 := BAV0
    clear BAV0
    replace hBV := Hid.mk hBV
    replace BAV := Hid.mk BAV
    clear hcs hG hB BA
    by_cases hd : (decI (S.set kk (UInt8.ofNat v))).2.1 = 0
    · have hdm : m.eqB (decI (S.set kk (UInt8.ofNat v))).1 = false := by
        cases hq : m.eqB (decI (S.set kk (UInt8.ofNat v))).1 with
        | false => rfl
        | true => exact absurd (hback.out _ hd ((PImg.eqB_iff _ _).1 hq).symm) hsne.out
      have hd2 : ((decI (S.set kk (UInt8.ofNat v))).2.1 != 0) = false := by simpa using hd
      generalize decI (S.set kk (UInt8.ofNat v)) = dd at *
      obtain ⟨o, g, pl⟩ := dd
      simp only at hd hd2 hdm
      replace hd := Hid.mk hd
      go_wp2_with fail
      go_region
      go_wp2_with fail
      refine (hD _ (hT.out _ hBV.out)).mono ?_
      rintro x w5 ⟨oa, oc, pa, pc, qa, qc, rfl, hO, hB5⟩
      replace BAV := BAV.out.below hB5 BAV.out.lt
      replace hB := Hid.mk (hBV.out.trans (hB5.mono hBV.out.size))
      have hG6 : Gr w5 (w5.alloc (.cells #[.slice oa o.regs.length oc, .slice pa o.comps.length pc, .slice qa o.gates.length qc, .int .i64 o.depth] 41)) := (Gr.refl w5).alloc _
      replace hO := hO.step (grown_of hG6.below none) (ne7_none _)
      replace BAV := BAV.gr hG6
      replace hB := Hid.mk (hB.out.trans (hG6.below.mono hB.out.size))
      have hOI := hO.into
      have OB := Box.new w5 #[.slice oa o.regs.length oc, .slice pa o.comps.length pc, .slice qa o.gates.length qc, .int .i64 o.depth] 41
      have ⟨z2, p2, f2⟩ := BAV.at
      have ⟨z3, p3, f3⟩ := OB.at
      have hsm := hS2 o oa pa qa oc pc qc _ (hI.out _ hB.out) hOI
      replace BAV := Hid.mk BAV
      replace OB := Hid.mk OB
      replace hO := Hid.mk hO
      clear hG6 hB5 hD hbs2 hcv hS2 hBV q0 qf hOI
      rw [hdm] at hsm
      go_wp2_with fail
      refine hsm.mono ?_
      rintro x w7 ⟨rfl, hG7⟩
      replace hB := Hid.mk (hB.out.trans (hG7.below.mono hB.out.size))
      clear hG7 hsm z2 p2 f2 z3 p3 f3
      go_wp2_with fail
      go_ret
      exact ⟨rfl, hB.out⟩
    · have hd2 : ((decI (S.set kk (UInt8.ofNat v))).2.1 != 0) = true := by simpa using hd
      generalize decI (S.set kk (UInt8.ofNat v)) = dd at *
      obtain ⟨o, g, pl⟩ := dd
      simp only at hd hd2
      replace hd := Hid.mk hd
      go_wp2_with fail
      go_region
      go_wp2_with fail
      refine (hD _ (hT.out _ hBV.out)).mono ?_
      rintro x w5 ⟨oa, oc, pa, pc, qa, qc, rfl, hO, hB5⟩
      replace BAV := BAV.out.below hB5 BAV.out.lt
      replace hB := Hid.mk (hBV.out.trans (hB5.mono hBV.out.size))
      have hG6 : Gr w5 (w5.alloc (.cells #[.slice oa o.regs.length oc, .slice pa o.comps.length pc, .slice qa o.gates.length qc, .int .i64 o.depth] 41)) := (Gr.refl w5).alloc _
      replace hO := hO.step (grown_of hG6.below none) (ne7_none _)
      replace BAV := BAV.gr hG6
      replace hB := Hid.mk (hB.out.trans (hG6.below.mono hB.out.size))
      have hOI := hO.into
      have OB := Box.new w5 #[.slice oa o.regs.length oc, .slice pa o.comps.length pc, .slice qa o.gates.length qc, .int .i64 o.depth] 41
      have ⟨z2, p2, f2⟩ := BAV.at
      have ⟨z3, p3, f3⟩ := OB.at
      have hsm := hS2 o oa pa qa oc pc qc _ (hI.out _ hB.out) hOI
      replace BAV := Hid.mk BAV
      replace OB := Hid.mk OB
      replace hO := Hid.mk hO
      clear hG6 hB5 hD hbs2 hcv hS2 hBV q0 qf hOI
      generalize m.eqB o = rr at hsm
      go_wp2_with fail
      refine hsm.mono ?_
      rintro x w7 ⟨rfl, hG7⟩
      replace hB := Hid.mk (hB.out.trans (hG7.below.mono hB.out.size))
      clear hG7 hsm z2 p2 f2 z3 p3 f3
      go_wp2_with fail
      go_ret
      exact ⟨rfl, hB.out⟩
  have g3 : ((encI n).2 == 0) = true := by simpa using hf
  have hkey2 := hkey hf
  generalize encI n = q2 at *
  obtain ⟨T2, f2⟩ := q2
  simp only at hf g3 hkey2 hkey
  clear hkey
  replace hf := Hid.mk hf
  have hsm := hS1 _ (hI.out _ hB.out) (hJ.out _ hB.out)
  have s2 := str_list S
  have s3 := str_list T2
  by_cases hst : S = T2
  · have hms := hkey2.2 hst
    rw [hms] at hsm
    have hst2 : (str S).toList = (str T2).toList := by rw [hst]
    replace hst := Hid.mk hst
    clear hkey2 s2 s3
    replace hms := Hid.mk hms
    go_wp2_with fail
    refine hsm.mono ?_
    rintro x w4 ⟨rfl, hG4⟩
    replace hB := Hid.mk (hB.out.trans (hG4.below.mono hB.out.size))
    replace BA := Hid.mk (BA.out.gr hG4)
    have BA0 := Hid.mk BA.out.lt
    clear hG4 hsm z0 p0 f0 z1 p1 f1
    obtain ⟨c, W, hcv, hG, hcs, hX⟩ := bytes_free S w4
    have hbs2 := back_string S kk v W w4.heap.size c hk hv (fun j hj => (hcs j hj).1)
    replace hB := Hid.mk (hB.out.trans (hG.below.mono hB.out.size))
    replace BA := Hid.mk (BA.out.gr hG)
    obtain ⟨q0, qf⟩ := hcs kk hk
    have hBV : Below w.heap.size w ((W.setCell ⟨w4.heap.size, kk, none⟩ (.int .u8 v)).drew) := Below.drew (hB.out.setCell (p := ⟨w4.heap.size, kk, none⟩) (Nat.le_of_lt BA0.out) (.int .u8 v))
    have BAV0 : Box (W.setCell ⟨w4.heap.size, kk, none⟩ (.int .u8 v)) w.heap.size #[.slice ra m.regs.length rc, .slice ca m.comps.length cc, .slice ga m.gates.length gc, .int .i64 m.depth] 41 := BA.out.kept (grown_set W w4.heap.size kk (.int .u8 v)) (by have := BA0.out; omega)
    have BAV : Box ((W.setCell ⟨w4.heap.size, kk, none⟩ (.int .u8 v)).drew) w.heap.size #[.slice ra m.regs.length rc, .slice ca m.comps.length cc, .slice ga m.gates.length gc, .int .i64 m.depth] 41 := BAV0
    clear BAV0
    replace hBV := Hid.mk hBV
    replace BAV := Hid.mk BAV
    clear hcs hG hB BA
    by_cases hd : (decI (S.set kk (UInt8.ofNat v))).2.1 = 0
    · have hdm : m.eqB (decI (S.set kk (UInt8.ofNat v))).1 = false := by
        cases hq : m.eqB (decI (S.set kk (UInt8.ofNat v))).1 with
        | false => rfl
        | true => exact absurd (hback.out _ hd ((PImg.eqB_iff _ _).1 hq).symm) hsne.out
      have hd2 : ((decI (S.set kk (UInt8.ofNat v))).2.1 != 0) = false := by simpa using hd
      generalize decI (S.set kk (UInt8.ofNat v)) = dd at *
      obtain ⟨o, g, pl⟩ := dd
      simp only at hd hd2 hdm
      replace hd := Hid.mk hd
      go_wp2_with fail
      go_region
      go_wp2_with fail
      refine (hD _ (hT.out _ hBV.out)).mono ?_
      rintro x w5 ⟨oa, oc, pa, pc, qa, qc, rfl, hO, hB5⟩
      replace BAV := BAV.out.below hB5 BAV.out.lt
      replace hB := Hid.mk (hBV.out.trans (hB5.mono hBV.out.size))
      have hG6 : Gr w5 (w5.alloc (.cells #[.slice oa o.regs.length oc, .slice pa o.comps.length pc, .slice qa o.gates.length qc, .int .i64 o.depth] 41)) := (Gr.refl w5).alloc _
      replace hO := hO.step (grown_of hG6.below none) (ne7_none _)
      replace BAV := BAV.gr hG6
      replace hB := Hid.mk (hB.out.trans (hG6.below.mono hB.out.size))
      have hOI := hO.into
      have OB := Box.new w5 #[.slice oa o.regs.length oc, .slice pa o.comps.length pc, .slice qa o.gates.length qc, .int .i64 o.depth] 41
      have ⟨z2, p2, f2⟩ := BAV.at
      have ⟨z3, p3, f3⟩ := OB.at
      have hsm := hS2 o oa pa qa oc pc qc _ (hI.out _ hB.out) hOI
      replace BAV := Hid.mk BAV
      replace OB := Hid.mk OB
      replace hO := Hid.mk hO
      clear hG6 hB5 hD hbs2 hcv hS2 hBV q0 qf hOI
      rw [hdm] at hsm
      go_wp2_with fail
      refine hsm.mono ?_
      rintro x w7 ⟨rfl, hG7⟩
      replace hB := Hid.mk (hB.out.trans (hG7.below.mono hB.out.size))
      clear hG7 hsm z2 p2 f2 z3 p3 f3
      go_wp2_with fail
      go_ret
      exact ⟨rfl, hB.out⟩
    · have hd2 : ((decI (S.set kk (UInt8.ofNat v))).2.1 != 0) = true := by simpa using hd
      generalize decI (S.set kk (UInt8.ofNat v)) = dd at *
      obtain ⟨o, g, pl⟩ := dd
      simp only at hd hd2
      replace hd := Hid.mk hd
      go_wp2_with fail
      go_region
      go_wp2_with fail
      refine (hD _ (hT.out _ hBV.out)).mono ?_
      rintro x w5 ⟨oa, oc, pa, pc, qa, qc, rfl, hO, hB5⟩
      replace BAV := BAV.out.below hB5 BAV.out.lt
      replace hB := Hid.mk (hBV.out.trans (hB5.mono hBV.out.size))
      have hG6 : Gr w5 (w5.alloc (.cells #[.slice oa o.regs.length oc, .slice pa o.comps.length pc, .slice qa o.gates.length qc, .int .i64 o.depth] 41)) := (Gr.refl w5).alloc _
      replace hO := hO.step (grown_of hG6.below none) (ne7_none _)
      replace BAV := BAV.gr hG6
      replace hB := Hid.mk (hB.out.trans (hG6.below.mono hB.out.size))
      have hOI := hO.into
      have OB := Box.new w5 #[.slice oa o.regs.length oc, .slice pa o.comps.length pc, .slice qa o.gates.length qc, .int .i64 o.depth] 41
      have ⟨z2, p2, f2⟩ := BAV.at
      have ⟨z3, p3, f3⟩ := OB.at
      have hsm := hS2 o oa pa qa oc pc qc _ (hI.out _ hB.out) hOI
      replace BAV := Hid.mk BAV
      replace OB := Hid.mk OB
      replace hO := Hid.mk hO
      clear hG6 hB5 hD hbs2 hcv hS2 hBV q0 qf hOI
      generalize m.eqB o = rr at hsm
      go_wp2_with fail
      refine hsm.mono ?_
      rintro x w7 ⟨rfl, hG7⟩
      replace hB := Hid.mk (hB.out.trans (hG7.below.mono hB.out.size))
      clear hG7 hsm z2 p2 f2 z3 p3 f3
      go_wp2_with fail
      go_ret
      exact ⟨rfl, hB.out⟩
  · have hms : m.eqB n = false := by
      cases hq : m.eqB n with
      | false => rfl
      | true => exact absurd (hkey2.1 hq) hst
    rw [hms] at hsm
    have hst2 : ((str S).toList == (str T2).toList) = false := by rw [s2, s3]; exact beq_false_of_ne hst
    replace hst := Hid.mk hst
    clear hkey2 s2 s3
    replace hms := Hid.mk hms
    go_wp2_with fail
    refine hsm.mono ?_
    rintro x w4 ⟨rfl, hG4⟩
    replace hB := Hid.mk (hB.out.trans (hG4.below.mono hB.out.size))
    replace BA := Hid.mk (BA.out.gr hG4)
    have BA0 := Hid.mk BA.out.lt
    clear hG4 hsm z0 p0 f0 z1 p1 f1
    obtain ⟨c, W, hcv, hG, hcs, hX⟩ := bytes_free S w4
    have hbs2 := back_string S kk v W w4.heap.size c hk hv (fun j hj => (hcs j hj).1)
    replace hB := Hid.mk (hB.out.trans (hG.below.mono hB.out.size))
    replace BA := Hid.mk (BA.out.gr hG)
    obtain ⟨q0, qf⟩ := hcs kk hk
    have hBV : Below w.heap.size w ((W.setCell ⟨w4.heap.size, kk, none⟩ (.int .u8 v)).drew) := Below.drew (hB.out.setCell (p := ⟨w4.heap.size, kk, none⟩) (Nat.le_of_lt BA0.out) (.int .u8 v))
    have BAV0 : Box (W.setCell ⟨w4.heap.size, kk, none⟩ (.int .u8 v)) w.heap.size #[.slice ra m.regs.length rc, .slice ca m.comps.length cc, .slice ga m.gates.length gc, .int .i64 m.depth] 41 := BA.out.kept (grown_set W w4.heap.size kk (.int .u8 v)) (by have := BA0.out; omega)
    have BAV : Box ((W.setCell ⟨w4.heap.size, kk, none⟩ (.int .u8 v)).drew) w.heap.size #[.slice ra m.regs.length rc, .slice ca m.comps.length cc, .slice ga m.gates.length gc, .int .i64 m.depth] 41 := BAV0
    clear BAV0
    replace hBV := Hid.mk hBV
    replace BAV := Hid.mk BAV
    clear hcs hG hB BA
    by_cases hd : (decI (S.set kk (UInt8.ofNat v))).2.1 = 0
    · have hdm : m.eqB (decI (S.set kk (UInt8.ofNat v))).1 = false := by
        cases hq : m.eqB (decI (S.set kk (UInt8.ofNat v))).1 with
        | false => rfl
        | true => exact absurd (hback.out _ hd ((PImg.eqB_iff _ _).1 hq).symm) hsne.out
      have hd2 : ((decI (S.set kk (UInt8.ofNat v))).2.1 != 0) = false := by simpa using hd
      generalize decI (S.set kk (UInt8.ofNat v)) = dd at *
      obtain ⟨o, g, pl⟩ := dd
      simp only at hd hd2 hdm
      replace hd := Hid.mk hd
      go_wp2_with fail
      go_region
      go_wp2_with fail
      refine (hD _ (hT.out _ hBV.out)).mono ?_
      rintro x w5 ⟨oa, oc, pa, pc, qa, qc, rfl, hO, hB5⟩
      replace BAV := BAV.out.below hB5 BAV.out.lt
      replace hB := Hid.mk (hBV.out.trans (hB5.mono hBV.out.size))
      have hG6 : Gr w5 (w5.alloc (.cells #[.slice oa o.regs.length oc, .slice pa o.comps.length pc, .slice qa o.gates.length qc, .int .i64 o.depth] 41)) := (Gr.refl w5).alloc _
      replace hO := hO.step (grown_of hG6.below none) (ne7_none _)
      replace BAV := BAV.gr hG6
      replace hB := Hid.mk (hB.out.trans (hG6.below.mono hB.out.size))
      have hOI := hO.into
      have OB := Box.new w5 #[.slice oa o.regs.length oc, .slice pa o.comps.length pc, .slice qa o.gates.length qc, .int .i64 o.depth] 41
      have ⟨z2, p2, f2⟩ := BAV.at
      have ⟨z3, p3, f3⟩ := OB.at
      have hsm := hS2 o oa pa qa oc pc qc _ (hI.out _ hB.out) hOI
      replace BAV := Hid.mk BAV
      replace OB := Hid.mk OB
      replace hO := Hid.mk hO
      clear hG6 hB5 hD hbs2 hcv hS2 hBV q0 qf hOI
      rw [hdm] at hsm
      go_wp2_with fail
      refine hsm.mono ?_
      rintro x w7 ⟨rfl, hG7⟩
      replace hB := Hid.mk (hB.out.trans (hG7.below.mono hB.out.size))
      clear hG7 hsm z2 p2 f2 z3 p3 f3
      go_wp2_with fail
      go_ret
      exact ⟨rfl, hB.out⟩
    · have hd2 : ((decI (S.set kk (UInt8.ofNat v))).2.1 != 0) = true := by simpa using hd
      generalize decI (S.set kk (UInt8.ofNat v)) = dd at *
      obtain ⟨o, g, pl⟩ := dd
      simp only at hd hd2
      replace hd := Hid.mk hd
      go_wp2_with fail
      go_region
      go_wp2_with fail
      refine (hD _ (hT.out _ hBV.out)).mono ?_
      rintro x w5 ⟨oa, oc, pa, pc, qa, qc, rfl, hO, hB5⟩
      replace BAV := BAV.out.below hB5 BAV.out.lt
      replace hB := Hid.mk (hBV.out.trans (hB5.mono hBV.out.size))
      have hG6 : Gr w5 (w5.alloc (.cells #[.slice oa o.regs.length oc, .slice pa o.comps.length pc, .slice qa o.gates.length qc, .int .i64 o.depth] 41)) := (Gr.refl w5).alloc _
      replace hO := hO.step (grown_of hG6.below none) (ne7_none _)
      replace BAV := BAV.gr hG6
      replace hB := Hid.mk (hB.out.trans (hG6.below.mono hB.out.size))
      have hOI := hO.into
      have OB := Box.new w5 #[.slice oa o.regs.length oc, .slice pa o.comps.length pc, .slice qa o.gates.length qc, .int .i64 o.depth] 41
      have ⟨z2, p2, f2⟩ := BAV.at
      have ⟨z3, p3, f3⟩ := OB.at
      have hsm := hS2 o oa pa qa oc pc qc _ (hI.out _ hB.out) hOI
      replace BAV := Hid.mk BAV
      replace OB := Hid.mk OB
      replace hO := Hid.mk hO
      clear hG6 hB5 hD hbs2 hcv hS2 hBV q0 qf hOI
      generalize m.eqB o = rr at hsm
      go_wp2_with fail
      refine hsm.mono ?_
      rintro x w7 ⟨rfl, hG7⟩
      replace hB := Hid.mk (hB.out.trans (hG7.below.mono hB.out.size))
      clear hG7 hsm z2 p2 f2 z3 p3 f3
      go_wp2_with fail
      go_ret
      exact ⟨rfl, hB.out⟩
end Go.Proofs.YthmfaafpdogpdaaDoor
