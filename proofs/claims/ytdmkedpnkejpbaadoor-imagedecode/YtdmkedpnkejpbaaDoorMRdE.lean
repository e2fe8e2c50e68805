import Derived.Test.YtdmkedpnkejpbaaDoorMRdI
import Derived.Test.YtdmkedpnkejpbaaDoorP16
import Derived.Test.YtdmkedpnkejpbaaDoorP20
/-
  Stage 4, image: Decode of any bytes.
-/
namespace Go.Proofs.YtdmkedpnkejpbaaDoor
open Go.RowKit

theorem own_lin {w : World} {base c : Nat} {a : Option Addr} {L : List Ins} (h : LOwn w base (.slice a L.length c) L) : LIn w.heap.size w a L := fun i hi => by
  obtain ⟨g, rfl, _, hg⟩ := own_at h (by omega)
  have q := fun j (hj : j < 5) => flat_get L i j hi hj
  refine ⟨g, 0, rfl, hg, hg, ?_⟩
  have e0 := q 0 (by omega); have e1 := q 1 (by omega); have e2 := q 2 (by omega); have e3 := q 3 (by omega); have e4 := q 4 (by omega)
  have r : ∀ j v, (flat L)[i * 5 + j]? = some v → w.cell? ⟨g, 0 + i * 5 + j, none⟩ = some v := fun j v hv => by
    rw [Nat.zero_add]; exact own_cell h rfl _ _ hv
  exact ⟨r 0 _ e0, r 1 _ e1, r 2 _ e2, r 3 _ e3, r 4 _ e4⟩
theorem ImgOwn.into {lo : Nat} {w : World} {m : PImg} {ra ca ga : Option Addr} {rc cc gc : Nat} (h : ImgOwn lo w (.slice ra m.regs.length rc) (.slice ca m.comps.length cc) (.slice ga m.gates.length gc) m) : ImgIn w.heap.size w ra ca ga m := by
  obtain ⟨⟨a, a1, a2⟩, ⟨b, b1, b2⟩, ⟨c, c1, c2⟩⟩ := h
  refine ⟨fun i hi => ?_, fun i hi => ?_, fun i hi => ?_⟩
  · obtain ⟨g, rfl, _, hg⟩ := own_at a1 (by omega)
    obtain ⟨cs, e, sa, sc, rfl, hs⟩ := a2.get i hi
    have hl : ∀ cs ∈ a, cs.length = 4 := fun cs hc => by
      obtain ⟨k, hk, rfl⟩ := List.mem_iff_getElem.1 hc
      obtain ⟨cs', e', sa, sc, rfl, _⟩ := a2.get k (by rw [← a2.len]; exact hk)
      rw [List.getElem?_eq_getElem hk] at e'
      rw [Option.some.inj e']
      rfl
    have r : ∀ j v, j < 4 → [Value.int .u64 m.regs[i].b, .int .u64 m.regs[i].n, .string (str m.regs[i].data), .slice sa m.regs[i].slots.length sc][j]? = some v → w.cell? ⟨g, 0 + i * 4 + j, none⟩ = some v := fun j v hj hv => by
      rw [Nat.zero_add]
      exact own_cell a1 rfl _ _ ((flatten_get hl i j _ e hj).trans hv)
    exact ⟨g, 0, sa, sc, rfl, hg, hg, r 0 _ (by omega) rfl, r 1 _ (by omega) rfl, r 2 _ (by omega) rfl, r 3 _ (by omega) rfl, own_fin slot_len hs⟩
  · obtain ⟨g, rfl, _, hg⟩ := own_at b1 (by omega)
    obtain ⟨cs, e, ra', rc', ka, kc, rfl, hs, hs2⟩ := b2.get i hi
    have hl : ∀ cs ∈ b, cs.length = 2 := fun cs hc => by
      obtain ⟨k, hk, rfl⟩ := List.mem_iff_getElem.1 hc
      obtain ⟨cs', e', _, _, _, _, rfl, _, _⟩ := b2.get k (by rw [← b2.len]; exact hk)
      rw [List.getElem?_eq_getElem hk] at e'
      rw [Option.some.inj e']
      rfl
    have r : ∀ j v, j < 2 → [Value.slice ra' m.comps[i].roots.length rc', .slice ka m.comps[i].code.length kc][j]? = some v → w.cell? ⟨g, 0 + i * 2 + j, none⟩ = some v := fun j v hj hv => by
      rw [Nat.zero_add]
      exact own_cell b1 rfl _ _ ((flatten_get hl i j _ e hj).trans hv)
    exact ⟨g, 0, ra', rc', ka, kc, rfl, hg, hg, r 0 _ (by omega) rfl, r 1 _ (by omega) rfl, own_fin root_len hs, own_lin hs2⟩
  · obtain ⟨g, rfl, _, hg⟩ := own_at c1 (by omega)
    obtain ⟨cs, e, xa, xc, ya, yc, rfl, hs, hs2⟩ := c2.get i hi
    have hl : ∀ cs ∈ c, cs.length = 4 := fun cs hc => by
      obtain ⟨k, hk, rfl⟩ := List.mem_iff_getElem.1 hc
      obtain ⟨cs', e', _, _, _, _, rfl, _, _⟩ := c2.get k (by rw [← c2.len]; exact hk)
      rw [List.getElem?_eq_getElem hk] at e'
      rw [Option.some.inj e']
      rfl
    have r : ∀ j v, j < 4 → [Value.int .i64 m.gates[i].c, .int .i64 m.gates[i].e, .slice xa m.gates[i].args.length xc, .slice ya m.gates[i].res.length yc][j]? = some v → w.cell? ⟨g, 0 + i * 4 + j, none⟩ = some v := fun j v hj hv => by
      rw [Nat.zero_add]
      exact own_cell c1 rfl _ _ ((flatten_get hl i j _ e hj).trans hv)
    exact ⟨g, 0, xa, xc, ya, yc, rfl, hg, hg, r 0 _ (by omega) rfl, r 1 _ (by omega) rfl, r 2 _ (by omega) rfl, r 3 _ (by omega) rfl, own_fin typ_len hs, own_fin typ_len hs2⟩
theorem kindP_rng (S : List UInt8) (σ : RS) : (kindP S σ).1.Rng := by
  unfold kindP
  split
  · simp [zTyp, PTyp.Rng, W64, B8, J64]
  · split
    · have a := num8 S (takeS S 1 σ)
      have b := num8 S (takeS S 8 (takeS S 1 σ))
      have c := num8 S (takeS S 8 (takeS S 8 (takeS S 1 σ)))
      have d := num8 S (takeS S 8 (takeS S 8 (takeS S 8 (takeS S 1 σ))))
      have e := num1 S (takeS S 8 (takeS S 8 (takeS S 8 (takeS S 8 (takeS S 1 σ)))))
      have f := num1 S (takeS S 1 (takeS S 8 (takeS S 8 (takeS S 8 (takeS S 8 (takeS S 1 σ))))))
      exact ⟨a, b, c, d, e, by show J64 (numV S 1 _); unfold J64; omega⟩
    · simp [zTyp, PTyp.Rng, W64, B8, J64]
theorem slotP_rng (S : List UInt8) (σ : RS) : (slotP S σ).1.Rng := ⟨kindP_rng S σ, num8 S _⟩
theorem rootP_rng (S : List UInt8) (σ : RS) : (rootP S σ).1.Rng := by
  have a := num1 S σ
  have f := num1 S (takeS S 1 (takeS S 8 (takeS S 8 (takeS S 8 (takeS S 1 σ)))))
  exact ⟨by show J64 (numV S 1 _); unfold J64; omega, num8 S _, num8 S _, num8 S _, num1 S _, by show J64 (numV S 1 _); unfold J64; omega⟩
theorem regP_rng (S : List UInt8) (σ : RS) : (regP S σ).1.Rng := by
  have a := num4 S σ
  have b := num4 S (takeS S 4 σ)
  have c := num2 S (takeS S 4 (takeS S 4 σ))
  have d := num2 S (regS S σ)
  have hk : regK S σ ≤ 65535 := by unfold regK; omega
  have hd : regD S σ ≤ 65535 := by unfold regD; omega
  unfold regP
  split
  · have l := listF_len (f := slotP S) (regK S σ) (regS S σ) []
    refine ⟨by show W64 (numV S 4 _); unfold W64; omega, by show W64 (numV S 4 _); unfold W64; omega, by show ([] : List UInt8).length ≤ maxG; simp, by simp only [List.length_nil] at l; show (listF (slotP S) (regK S σ) (regS S σ) []).1.length ≤ maxG; unfold maxG; omega, listF_all (fun σ => slotP_rng S σ) _ _ _ (by simp)⟩
  · have l := takeV_len S (regD S σ) (takeS S 2 (regS S σ))
    refine ⟨by show W64 (numV S 4 _); unfold W64; omega, by show W64 (numV S 4 _); unfold W64; omega, by show (takeV S (regD S σ) (takeS S 2 (regS S σ))).length ≤ maxG; unfold maxG; omega, by show ([] : List PSlot).length ≤ maxG; simp, by simp⟩
theorem decA_rng {T : List UInt8} (hT : T.length ≤ 1000000) : (decA T).1.length ≤ 1000000 ∧ OpsIn (decA T).1 := by
  by_cases h : (decA T).2.1 = 0
  · obtain ⟨L, e, _, ho, hc⟩ := decA_ok h
    rw [e]
    refine ⟨?_, ho⟩
    have := code_length L
    rw [hc] at this
    show L.length ≤ 1000000
    omega
  · rw [(decA_bad h).1]
    exact ⟨by simp, fun k hk => by simp at hk⟩
theorem compP_rng (S : List UInt8) (σ : RS) (hS : S.length ≤ 1000000) : (compP S σ).1.Rng := by
  have a := num1 S σ
  have l := listF_len (f := rootP S) (numV S 1 σ).toNat (takeS S 1 σ) []
  have hw := whole_le S (numV S 2 (rootsP S σ).2).toNat (takeS S 2 (rootsP S σ).2)
  have hv := takeV_len S (wholeN S (numV S 2 (rootsP S σ).2).toNat (takeS S 2 (rootsP S σ).2) * 8) (takeS S 2 (rootsP S σ).2)
  have hd := decA_rng (T := takeV S (wholeN S (numV S 2 (rootsP S σ).2).toNat (takeS S 2 (rootsP S σ).2) * 8) (takeS S 2 (rootsP S σ).2)) (by omega)
  exact ⟨by simp only [List.length_nil] at l; show (listF (rootP S) (numV S 1 σ).toNat (takeS S 1 σ) []).1.length ≤ maxG; unfold maxG; omega, Nat.le_trans hd.1 (by unfold maxI; omega), hd.2, listF_all (fun σ => rootP_rng S σ) _ _ _ (by simp)⟩
theorem kindsP_rng (S : List UInt8) (σ : RS) : (kindsP S σ).1.length ≤ maxG ∧ ∀ k ∈ (kindsP S σ).1, k.Rng := by
  have a := num1 S σ
  have l := listF_len (f := kindP S) (numV S 1 σ).toNat (takeS S 1 σ) []
  exact ⟨by simp only [List.length_nil] at l; show (listF (kindP S) (numV S 1 σ).toNat (takeS S 1 σ) []).1.length ≤ maxG; unfold maxG; omega, listF_all (fun σ => kindP_rng S σ) _ _ _ (by simp)⟩
theorem gateP_rng (S : List UInt8) (σ : RS) : (gateP S σ).1.Rng := by
  have a := num1 S σ
  have b := num2 S (takeS S 1 σ)
  have c := kindsP_rng S (gateS S σ)
  have d := kindsP_rng S (kindsP S (gateS S σ)).2
  exact ⟨by show J64 (numV S 1 _); unfold J64; omega, by show J64 (numV S 2 _); unfold J64; omega, c.1, d.1, c.2, d.2⟩
theorem imgP_rng (S : List UInt8) (hS : S.length ≤ 1000000) : (imgP S).1.Rng := by
  unfold imgP
  split
  · have a := num1 S (h1S S)
    have b := num1 S (h2S S)
    have c := num1 S (h3S S)
    have d := num1 S h0S
    have l1 := listF_len (f := regP S) (numV S 1 (h1S S)).toNat (h4S S) []
    have l2 := listF_len (f := compP S) (numV S 1 (h2S S)).toNat (regsP S).2 []
    have l3 := listF_len (f := gateP S) (numV S 1 (h3S S)).toNat (compsP S).2 []
    simp only [List.length_nil] at l1 l2 l3
    refine ⟨⟨?_, listF_all (fun σ => regP_rng S σ) _ _ _ (by simp)⟩, ⟨?_, listF_all (fun σ => compP_rng S σ hS) _ _ _ (by simp)⟩, ⟨?_, listF_all (fun σ => gateP_rng S σ) _ _ _ (by simp)⟩, by show J64 (numV S 1 _); unfold J64; omega⟩
    · show (listF (regP S) (numV S 1 (h1S S)).toNat (h4S S) []).1.length ≤ maxG
      unfold maxG; omega
    · show (listF (compP S) (numV S 1 (h2S S)).toNat (regsP S).2 []).1.length ≤ maxG
      unfold maxG; omega
    · show (listF (gateP S) (numV S 1 (h3S S)).toNat (compsP S).2 []).1.length ≤ maxG
      unfold maxG; omega
  · exact ⟨⟨by simp [zImg], by simp [zImg]⟩, ⟨by simp [zImg], by simp [zImg]⟩, ⟨by simp [zImg], by simp [zImg]⟩, by simp [zImg, J64]⟩
theorem zOwn (lo : Nat) (w : World) : ImgOwn lo w (.slice none 0 0) (.slice none 0 0) (.slice none 0 0) zImg := ⟨⟨[], ⟨rfl, .inl ⟨rfl, rfl⟩⟩, trivial⟩, ⟨[], ⟨rfl, .inl ⟨rfl, rfl⟩⟩, trivial⟩, ⟨[], ⟨rfl, .inl ⟨rfl, rfl⟩⟩, trivial⟩⟩
/-- What Decode's answer is, of a world. -/
def DecIs (w w' : World) (d : PImg × Int × Int) (x : Ending) : Prop := ∃ ra rc ca cc ga gc, x = .returned (.tuple #[.agg #[.slice ra d.1.regs.length rc, .slice ca d.1.comps.length cc, .slice ga d.1.gates.length gc, .int .i64 d.1.depth], .int .i64 d.2.1, .int .i64 d.2.2]) ∧ ImgOwn w.heap.size w' (.slice ra d.1.regs.length rc) (.slice ca d.1.comps.length cc) (.slice ga d.1.gates.length gc) d.1 ∧ Below w.heap.size w w'

set_option maxRecDepth 10000 in
set_option maxHeartbeats 4000000 in
theorem imgDecode_any (S : List UInt8) (w : World) (ht : TabIn w) :
    Calls Tryd.prog 5 #[.string (str S)] w fun x w' => DecIs w w' (decI S) x := by
  have ss := str_size S
  by_cases hl : 40000 < S.length
  · have r1 : decI S = (zImg, 42, 0) := if_pos hl
    have hl' : (40000 : Int) < S.length := by omega
    rw [r1]
    have hBe := Hid.mk ((Gr.refl w).alloc (.cells #[.slice none 0 0, .slice none 0 0, .slice none 0 0, .int .i64 0] 27)).below
    have X := Box.new w #[.slice none 0 0, .slice none 0 0, .slice none 0 0, .int .i64 0] 27
    have ⟨z0, p0, f0⟩ := X.at
    clear r1 X
    go_enter Tryd.func5, Tryd.ntmps5
    go_wp2_with fail
    simp [bodyPost, results, Tryd.results5, go_sem, p0]
    exact ⟨none, 0, none, 0, none, 0, rfl, zOwn _ _, hBe.out⟩
  have hl' : ¬ (40000 : Int) < S.length := by omega
  have r1 : decI S = if (imgP S).2.e = 0 then (if (imgP S).1.right = 0 then ((imgP S).1, 0, 0) else (zImg, (imgP S).1.right, 0)) else (zImg, (imgP S).2.e, (imgP S).2.p) := if_neg hl
  rw [r1]
  have hi := fun kr W h0 h1 h2 => rimage_any S kr W h0 h1 h2 (by omega)
  have hr := imgP_rng S (by omega)
  have h2 := ht.size
  clear r1
  generalize imgP S = q at *
  obtain ⟨m, τ⟩ := q
  simp only at hi hr ⊢
  have hR := fun ra ca ga rc cc gc W h0 h1 => imgRight_any m ra ca ga rc cc gc W h0 h1 hr
  by_cases he : τ.e = 0
  case neg =>
    rw [if_neg he]
    have hG0 : Gr w ((w.alloc (.cells #[.slice none 0 0, .slice none 0 0, .slice none 0 0, .int .i64 0] 27)).alloc (.cells #[.string (str S), .int .i64 0, .int .i64 0, .int .i64 0] 44)) := ((Gr.refl w).alloc _).alloc _
    have X : Box ((w.alloc (.cells #[.slice none 0 0, .slice none 0 0, .slice none 0 0, .int .i64 0] 27)).alloc (.cells #[.string (str S), .int .i64 0, .int .i64 0, .int .i64 0] 44)) w.heap.size #[.slice none 0 0, .slice none 0 0, .slice none 0 0, .int .i64 0] 27 := (Box.new w _ _).alloc _
    have ht0 := ht.gr hG0
    replace hG0 := Hid.mk hG0
    replace X := Hid.mk X
    replace ht0 := Hid.mk ht0
    replace ht := Hid.mk ht
    replace hr := Hid.mk hr
    go_enter Tryd.func5, Tryd.ntmps5
    go_wp2_with fail
    refine (hi (w.heap.size + 1) _ ht0.out (by omega) (Box.next _ _ _ _)).mono ?_
    rintro x w1 ⟨ra, rc, ca, cc, ga, gc, rfl, hO, h1, hg⟩
    replace X := Hid.mk (X.out.kept hg (by omega))
    have hBe := Hid.mk (hG0.out.below.trans (Below.of_grown hg (gr_size hG0.out) (fun q e => by cases e; omega)))
    replace hO := hO.base (gr_size hG0.out)
    have hT : TabIn w1 := ht.out.below hBe.out h2
    have hG1 : Gr w1 (w1.alloc (.cells #[.slice ra m.regs.length rc, .slice ca m.comps.length cc, .slice ga m.gates.length gc, .int .i64 m.depth] 27)) := (Gr.refl w1).alloc _
    have hO1 := hO.step (grown_of hG1.below none) (ne7_none _)
    have X1 := X.out.gr hG1
    have hB1 := hBe.out.trans (hG1.below.mono hBe.out.size)
    have ⟨z0, p0, f0⟩ := (h1.gr hG1).at
    have c1 := hR ra ca ga rc cc gc (w1.alloc (.cells #[.slice ra m.regs.length rc, .slice ca m.comps.length cc, .slice ga m.gates.length gc, .int .i64 m.depth] 27)) (hT.gr hG1) hO1.into
    clear hi hR hG0 hG1 hg hO hBe X
    have X := Hid.mk X1
    have hBe := Hid.mk hB1
    replace hO1 := Hid.mk hO1
    replace h1 := Hid.mk h1
    clear X1 hB1
    have he' : (τ.e != 0) = true := by simpa using he
    replace he := Hid.mk he
    have ⟨z1, p1, f1⟩ := X.out.at
    clear c1
    go_wp2_with fail
    clear z0 p0 f0 z1 p1 f1
    refine wp_world (fun W => RIn W (w.heap.size + 1) S τ ∧ Box W w.heap.size #[.slice none 0 0, .slice none 0 0, .slice none 0 0, .int .i64 0] 27 ∧ Below w.heap.size w W) ⟨h1.out.alloc _, X.out, hBe.out⟩ ?_
    clear h1 X hBe hO1 hT ht0
    rintro W ⟨h1, X, hBe⟩
    have ⟨z0, p0, f0⟩ := h1.at
    have ⟨z1, p1, f1⟩ := X.at
    replace h1 := Hid.mk h1
    replace X := Hid.mk X
    replace hBe := Hid.mk hBe
    go_region
    go_wp2_with fail
    have b4 : Box (((((W).setCell ⟨w.heap.size, 0, none⟩ (.slice none 0 0)).setCell ⟨w.heap.size, 1, none⟩ (.slice none 0 0)).setCell ⟨w.heap.size, 2, none⟩ (.slice none 0 0)).setCell ⟨w.heap.size, 3, none⟩ (.int .i64 0)) w.heap.size #[.slice none 0 0, .slice none 0 0, .slice none 0 0, .int .i64 0] 27 := Box.setRow X.out [.slice none 0 0, .slice none 0 0, .slice none 0 0, .int .i64 0] rfl
    have hB4 : Below w.heap.size w (((((W).setCell ⟨w.heap.size, 0, none⟩ (.slice none 0 0)).setCell ⟨w.heap.size, 1, none⟩ (.slice none 0 0)).setCell ⟨w.heap.size, 2, none⟩ (.slice none 0 0)).setCell ⟨w.heap.size, 3, none⟩ (.int .i64 0)) := ((((hBe.out.setCell (p := ⟨w.heap.size, 0, none⟩) (Nat.le_refl _) (.slice none 0 0)).setCell (p := ⟨w.heap.size, 1, none⟩) (Nat.le_refl _) (.slice none 0 0)).setCell (p := ⟨w.heap.size, 2, none⟩) (Nat.le_refl _) (.slice none 0 0)).setCell (p := ⟨w.heap.size, 3, none⟩) (Nat.le_refl _) (.int .i64 0))
    have ⟨_, q4, _⟩ := b4.at
    clear b4
    generalize ((((W).setCell ⟨w.heap.size, 0, none⟩ (.slice none 0 0)).setCell ⟨w.heap.size, 1, none⟩ (.slice none 0 0)).setCell ⟨w.heap.size, 2, none⟩ (.slice none 0 0)).setCell ⟨w.heap.size, 3, none⟩ (.int .i64 0) = W4 at *
    simp [bodyPost, results, Tryd.results5, go_sem, q4]
    exact ⟨none, 0, none, 0, none, 0, rfl, zOwn _ _, Below.drew hB4⟩
  rw [if_pos he]
  by_cases hb : m.right = 0
  case neg =>
    rw [if_neg hb]
    have hG0 : Gr w ((w.alloc (.cells #[.slice none 0 0, .slice none 0 0, .slice none 0 0, .int .i64 0] 27)).alloc (.cells #[.string (str S), .int .i64 0, .int .i64 0, .int .i64 0] 44)) := ((Gr.refl w).alloc _).alloc _
    have X : Box ((w.alloc (.cells #[.slice none 0 0, .slice none 0 0, .slice none 0 0, .int .i64 0] 27)).alloc (.cells #[.string (str S), .int .i64 0, .int .i64 0, .int .i64 0] 44)) w.heap.size #[.slice none 0 0, .slice none 0 0, .slice none 0 0, .int .i64 0] 27 := (Box.new w _ _).alloc _
    have ht0 := ht.gr hG0
    replace hG0 := Hid.mk hG0
    replace X := Hid.mk X
    replace ht0 := Hid.mk ht0
    replace ht := Hid.mk ht
    replace hr := Hid.mk hr
    go_enter Tryd.func5, Tryd.ntmps5
    go_wp2_with fail
    refine (hi (w.heap.size + 1) _ ht0.out (by omega) (Box.next _ _ _ _)).mono ?_
    rintro x w1 ⟨ra, rc, ca, cc, ga, gc, rfl, hO, h1, hg⟩
    replace X := Hid.mk (X.out.kept hg (by omega))
    have hBe := Hid.mk (hG0.out.below.trans (Below.of_grown hg (gr_size hG0.out) (fun q e => by cases e; omega)))
    replace hO := hO.base (gr_size hG0.out)
    have hT : TabIn w1 := ht.out.below hBe.out h2
    have hG1 : Gr w1 (w1.alloc (.cells #[.slice ra m.regs.length rc, .slice ca m.comps.length cc, .slice ga m.gates.length gc, .int .i64 m.depth] 27)) := (Gr.refl w1).alloc _
    have hO1 := hO.step (grown_of hG1.below none) (ne7_none _)
    have X1 := X.out.gr hG1
    have hB1 := hBe.out.trans (hG1.below.mono hBe.out.size)
    have ⟨z0, p0, f0⟩ := (h1.gr hG1).at
    have c1 := hR ra ca ga rc cc gc (w1.alloc (.cells #[.slice ra m.regs.length rc, .slice ca m.comps.length cc, .slice ga m.gates.length gc, .int .i64 m.depth] 27)) (hT.gr hG1) hO1.into
    clear hi hR hG0 hG1 hg hO hBe X
    have X := Hid.mk X1
    have hBe := Hid.mk hB1
    replace hO1 := Hid.mk hO1
    replace h1 := Hid.mk h1
    clear X1 hB1
    have he' : (τ.e != 0) = false := by simpa using he
    replace he := Hid.mk he
    have Mb := Hid.mk (Box.new w1 #[.slice ra m.regs.length rc, .slice ca m.comps.length cc, .slice ga m.gates.length gc, .int .i64 m.depth] 27)
    go_wp2_with fail
    refine c1.mono ?_
    rintro x w2 ⟨rfl, hG2⟩
    replace Mb := Hid.mk (Mb.out.gr hG2)
    replace X := Hid.mk (X.out.gr hG2)
    replace hO1 := Hid.mk (hO1.out.step (grown_of hG2.below none) (ne7_none _))
    replace hBe := Hid.mk (hBe.out.trans (hG2.below.mono hBe.out.size))
    have ⟨z1, p1, f1⟩ := X.out.at
    have ⟨z2, p2, f2⟩ := Mb.out.at
    clear z0 p0 f0 hG2 c1
    have hb' : (m.right != 0) = true := by simpa using hb
    replace hb := Hid.mk hb
    go_wp2_with fail
    have b4 : Box (((((w2).setCell ⟨w.heap.size, 0, none⟩ (.slice none 0 0)).setCell ⟨w.heap.size, 1, none⟩ (.slice none 0 0)).setCell ⟨w.heap.size, 2, none⟩ (.slice none 0 0)).setCell ⟨w.heap.size, 3, none⟩ (.int .i64 0)) w.heap.size #[.slice none 0 0, .slice none 0 0, .slice none 0 0, .int .i64 0] 27 := Box.setRow X.out [.slice none 0 0, .slice none 0 0, .slice none 0 0, .int .i64 0] rfl
    have hB4 : Below w.heap.size w (((((w2).setCell ⟨w.heap.size, 0, none⟩ (.slice none 0 0)).setCell ⟨w.heap.size, 1, none⟩ (.slice none 0 0)).setCell ⟨w.heap.size, 2, none⟩ (.slice none 0 0)).setCell ⟨w.heap.size, 3, none⟩ (.int .i64 0)) := ((((hBe.out.setCell (p := ⟨w.heap.size, 0, none⟩) (Nat.le_refl _) (.slice none 0 0)).setCell (p := ⟨w.heap.size, 1, none⟩) (Nat.le_refl _) (.slice none 0 0)).setCell (p := ⟨w.heap.size, 2, none⟩) (Nat.le_refl _) (.slice none 0 0)).setCell (p := ⟨w.heap.size, 3, none⟩) (Nat.le_refl _) (.int .i64 0))
    have ⟨_, q4, _⟩ := b4.at
    clear b4
    generalize ((((w2).setCell ⟨w.heap.size, 0, none⟩ (.slice none 0 0)).setCell ⟨w.heap.size, 1, none⟩ (.slice none 0 0)).setCell ⟨w.heap.size, 2, none⟩ (.slice none 0 0)).setCell ⟨w.heap.size, 3, none⟩ (.int .i64 0) = W4 at *
    simp [bodyPost, results, Tryd.results5, go_sem, q4]
    exact ⟨none, 0, none, 0, none, 0, rfl, zOwn _ _, hB4⟩
  rw [if_pos hb]
  have hG0 : Gr w ((w.alloc (.cells #[.slice none 0 0, .slice none 0 0, .slice none 0 0, .int .i64 0] 27)).alloc (.cells #[.string (str S), .int .i64 0, .int .i64 0, .int .i64 0] 44)) := ((Gr.refl w).alloc _).alloc _
  have X : Box ((w.alloc (.cells #[.slice none 0 0, .slice none 0 0, .slice none 0 0, .int .i64 0] 27)).alloc (.cells #[.string (str S), .int .i64 0, .int .i64 0, .int .i64 0] 44)) w.heap.size #[.slice none 0 0, .slice none 0 0, .slice none 0 0, .int .i64 0] 27 := (Box.new w _ _).alloc _
  have ht0 := ht.gr hG0
  replace hG0 := Hid.mk hG0
  replace X := Hid.mk X
  replace ht0 := Hid.mk ht0
  replace ht := Hid.mk ht
  replace hr := Hid.mk hr
  go_enter Tryd.func5, Tryd.ntmps5
  go_wp2_with fail
  refine (hi (w.heap.size + 1) _ ht0.out (by omega) (Box.next _ _ _ _)).mono ?_
  rintro x w1 ⟨ra, rc, ca, cc, ga, gc, rfl, hO, h1, hg⟩
  replace X := Hid.mk (X.out.kept hg (by omega))
  have hBe := Hid.mk (hG0.out.below.trans (Below.of_grown hg (gr_size hG0.out) (fun q e => by cases e; omega)))
  replace hO := hO.base (gr_size hG0.out)
  have hT : TabIn w1 := ht.out.below hBe.out h2
  have hG1 : Gr w1 (w1.alloc (.cells #[.slice ra m.regs.length rc, .slice ca m.comps.length cc, .slice ga m.gates.length gc, .int .i64 m.depth] 27)) := (Gr.refl w1).alloc _
  have hO1 := hO.step (grown_of hG1.below none) (ne7_none _)
  have X1 := X.out.gr hG1
  have hB1 := hBe.out.trans (hG1.below.mono hBe.out.size)
  have ⟨z0, p0, f0⟩ := (h1.gr hG1).at
  have c1 := hR ra ca ga rc cc gc (w1.alloc (.cells #[.slice ra m.regs.length rc, .slice ca m.comps.length cc, .slice ga m.gates.length gc, .int .i64 m.depth] 27)) (hT.gr hG1) hO1.into
  clear hi hR hG0 hG1 hg hO hBe X
  have X := Hid.mk X1
  have hBe := Hid.mk hB1
  replace hO1 := Hid.mk hO1
  replace h1 := Hid.mk h1
  clear X1 hB1
  have he' : (τ.e != 0) = false := by simpa using he
  replace he := Hid.mk he
  have Mb := Hid.mk (Box.new w1 #[.slice ra m.regs.length rc, .slice ca m.comps.length cc, .slice ga m.gates.length gc, .int .i64 m.depth] 27)
  go_wp2_with fail
  refine c1.mono ?_
  rintro x w2 ⟨rfl, hG2⟩
  replace Mb := Hid.mk (Mb.out.gr hG2)
  replace X := Hid.mk (X.out.gr hG2)
  replace hO1 := Hid.mk (hO1.out.step (grown_of hG2.below none) (ne7_none _))
  replace hBe := Hid.mk (hBe.out.trans (hG2.below.mono hBe.out.size))
  have ⟨z1, p1, f1⟩ := X.out.at
  have ⟨z2, p2, f2⟩ := Mb.out.at
  clear z0 p0 f0 hG2 c1
  have hb' : (m.right != 0) = false := by simpa using hb
  replace hb := Hid.mk hb
  go_wp2_with fail
  have b4 : Box (((((w2).setCell ⟨w.heap.size, 0, none⟩ (.slice ra m.regs.length rc)).setCell ⟨w.heap.size, 1, none⟩ (.slice ca m.comps.length cc)).setCell ⟨w.heap.size, 2, none⟩ (.slice ga m.gates.length gc)).setCell ⟨w.heap.size, 3, none⟩ (.int .i64 m.depth)) w.heap.size #[.slice ra m.regs.length rc, .slice ca m.comps.length cc, .slice ga m.gates.length gc, .int .i64 m.depth] 27 := Box.setRow X.out [.slice ra m.regs.length rc, .slice ca m.comps.length cc, .slice ga m.gates.length gc, .int .i64 m.depth] rfl
  have hB4 : Below w.heap.size w (((((w2).setCell ⟨w.heap.size, 0, none⟩ (.slice ra m.regs.length rc)).setCell ⟨w.heap.size, 1, none⟩ (.slice ca m.comps.length cc)).setCell ⟨w.heap.size, 2, none⟩ (.slice ga m.gates.length gc)).setCell ⟨w.heap.size, 3, none⟩ (.int .i64 m.depth)) := ((((hBe.out.setCell (p := ⟨w.heap.size, 0, none⟩) (Nat.le_refl _) (.slice ra m.regs.length rc)).setCell (p := ⟨w.heap.size, 1, none⟩) (Nat.le_refl _) (.slice ca m.comps.length cc)).setCell (p := ⟨w.heap.size, 2, none⟩) (Nat.le_refl _) (.slice ga m.gates.length gc)).setCell (p := ⟨w.heap.size, 3, none⟩) (Nat.le_refl _) (.int .i64 m.depth))
  have O4 : ImgOwn w.heap.size (((((w2).setCell ⟨w.heap.size, 0, none⟩ (.slice ra m.regs.length rc)).setCell ⟨w.heap.size, 1, none⟩ (.slice ca m.comps.length cc)).setCell ⟨w.heap.size, 2, none⟩ (.slice ga m.gates.length gc)).setCell ⟨w.heap.size, 3, none⟩ (.int .i64 m.depth)) (.slice ra m.regs.length rc) (.slice ca m.comps.length cc) (.slice ga m.gates.length gc) m := ImgOwn.row (by decide) [.slice ra m.regs.length rc, .slice ca m.comps.length cc, .slice ga m.gates.length gc, .int .i64 m.depth] hO1.out X.out
  have ⟨_, q4, _⟩ := b4.at
  clear z1 p1 f1 z2 p2 f2 X Mb hBe hO1 b4
  generalize ((((w2).setCell ⟨w.heap.size, 0, none⟩ (.slice ra m.regs.length rc)).setCell ⟨w.heap.size, 1, none⟩ (.slice ca m.comps.length cc)).setCell ⟨w.heap.size, 2, none⟩ (.slice ga m.gates.length gc)).setCell ⟨w.heap.size, 3, none⟩ (.int .i64 m.depth) = W4 at *
  simp [bodyPost, results, Tryd.results5, go_sem, q4]
  exact ⟨ra, rc, ca, cc, ga, gc, rfl, O4, hB4⟩
end Go.Proofs.YtdmkedpnkejpbaaDoor
