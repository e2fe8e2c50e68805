import Derived.Test.YtmmakknhaacplaaGreatDoorP44
import Derived.Test.YtmmakknhaacplaaGreatDoorP20
import Derived.Test.YtmmakknhaacplaaGreatDoorP23
import Derived.Deep.AppendSrc
/-
  Stage 4, image: Decode of any bytes.
-/
namespace Go.Proofs.YtmmakknhaacplaaGreatDoor
open Go.RowKit

theorem flatten_get {k : Nat} : ∀ {css : List (List Value)}, (∀ cs ∈ css, cs.length = k) → ∀ (i j : Nat) (cs : List Value), css[i]? = some cs → j < k → css.flatten[i * k + j]? = cs[j]?
  | [], _, i, _, cs, h, _ => by simp at h
  | c :: css, hl, 0, j, cs, h, hj => by
    obtain rfl : c = cs := by simpa using h
    have := hl c (by simp)
    rw [List.flatten_cons, Nat.zero_mul, Nat.zero_add, List.getElem?_append_left (by omega)]
  | c :: css, hl, i + 1, j, cs, h, hj => by
    have hc := hl c (by simp)
    rw [List.flatten_cons, List.getElem?_append_right (by rw [hc, Nat.succ_mul]; omega)]
    have e : (i + 1) * k + j - c.length = i * k + j := by rw [hc, Nat.succ_mul]; omega
    rw [e]
    exact flatten_get (fun x hx => hl x (by simp [hx])) i j cs (by simpa using h) hj
theorem flatMap_get {α : Type} {k : Nat} {vals : α → List Value} (hv : ∀ x, (vals x).length = k) (L : List α) (i j : Nat) (hi : i < L.length) (hj : j < k) : (L.flatMap vals)[i * k + j]? = (vals L[i])[j]? := by
  rw [List.flatMap_def]
  refine flatten_get (k := k) ?_ i j (vals L[i]) (by simp [hi]) hj
  intro cs h
  obtain ⟨x, _, rfl⟩ := List.mem_map.1 h
  exact hv x
theorem own_at {w : World} {base e size n c : Nat} {a : Option Addr} {xs : List Value} (h : w.ownsRow base e size (.slice a n c) n xs) (hn : 0 < n) : ∃ g, a = some ⟨g, 0, none⟩ ∧ base ≤ g ∧ g < w.heap.size := by
  have hb := own_block h
  rcases h.2 with ⟨e1, h0⟩ | ⟨g, cap, cur, e1, hbg, _⟩
  · omega
  · have e2 : a = some ⟨g, 0, none⟩ := by cases e1; rfl
    subst e2
    exact ⟨g, rfl, hb g rfl⟩
theorem own_cell {w : World} {base e size n c : Nat} {a : Option Addr} {xs : List Value} (h : w.ownsRow base e size (.slice a n c) n xs) {g : Nat} (ha : a = some ⟨g, 0, none⟩) (j : Nat) (v : Value) (hj : xs[j]? = some v) : w.cell? ⟨g, j, none⟩ = some v := by
  subst ha
  exact row_cell h j v hj
theorem own_fin {α : Type} {k : Nat} {vals : α → List Value} (hv : ∀ x, (vals x).length = k) {w : World} {base e c : Nat} {a : Option Addr} {L : List α} (h : w.ownsRow base e k (.slice a L.length c) L.length (L.flatMap vals)) : FIn k vals w.heap.size w a L := fun i hi => by
  obtain ⟨g, rfl, _, hg⟩ := own_at h (by omega)
  refine ⟨g, 0, rfl, hg, hg, fun j hj => ?_⟩
  have e := flatMap_get hv L i j hi hj
  have hs : j < (vals L[i]).length := by rw [hv]; exact hj
  rw [List.getElem?_eq_getElem hs] at e ⊢
  rw [Nat.zero_add]
  exact own_cell h rfl _ _ e
theorem slot_len (x : PSlot) : x.vals.length = 8 := rfl
theorem root_len (x : PRoot) : x.vals.length = 6 := rfl
theorem typ_len (x : PTyp) : x.vals.length = 7 := rfl
theorem own_lin {w : World} {base c : Nat} {a : Option Addr} {L : List Ins} (h : LOwn w base (.slice a L.length c) L) : LIn w.heap.size w a L := fun i hi => by
  obtain ⟨g, rfl, _, hg⟩ := own_at h (by omega)
  have q := fun j (hj : j < 5) => flat_get L i j hi hj
  refine ⟨g, 0, rfl, hg, hg, ?_⟩
  have e0 := q 0 (by omega); have e1 := q 1 (by omega); have e2 := q 2 (by omega); have e3 := q 3 (by omega); have e4 := q 4 (by omega)
  have r : ∀ j v, (flat L)[i * 5 + j]? = some v → w.cell? ⟨g, 0 + i * 5 + j, none⟩ = some v := fun j v hv => by
    rw [Nat.zero_add]; exact own_cell h rfl _ _ hv
  exact ⟨r 0 _ e0, r 1 _ e1, r 2 _ e2, r 3 _ e3, r 4 _ e4⟩
theorem ImgOwn.into {lo : Nat} {w : World} {m : PImg} {ra ca ga : Option Addr} {rc cc gc : Nat} (h : ImgOwn lo w (.slice ra m.regs.length rc) (.slice ca m.comps.length cc) (.slice ga m.gates.length gc) m) : ImgIn w.heap.size w ra ca ga m := by
  obtain ⟨⟨a, a1, a2⟩, ⟨b, b1, b2⟩, ⟨c, c1, c2⟩⟩ := h
  refine ⟨fun i hi => ?_, fun i hi => ?_, fun i hi => ?_⟩
  · obtain ⟨g, rfl, _, hg⟩ := own_at a1 (by omega)
    obtain ⟨cs, e, sa, sc, rfl, hs⟩ := a2.get i hi
    have hl : ∀ cs ∈ a, cs.length = 4 := fun cs hc => by
      obtain ⟨k, hk, rfl⟩ := List.mem_iff_getElem.1 hc
      obtain ⟨cs', e', sa, sc, rfl, _⟩ := a2.get k (by rw [← a2.len]; exact hk)
      rw [List.getElem?_eq_getElem hk] at e'
      rw [Option.some.inj e']
      rfl
    have r : ∀ j v, j < 4 → [Value.int .u64 m.regs[i].b, .int .u64 m.regs[i].n, .string (str m.regs[i].data), .slice sa m.regs[i].slots.length sc][j]? = some v → w.cell? ⟨g, 0 + i * 4 + j, none⟩ = some v := fun j v hj hv => by
      rw [Nat.zero_add]
      exact own_cell a1 rfl _ _ ((flatten_get hl i j _ e hj).trans hv)
    exact ⟨g, 0, sa, sc, rfl, hg, hg, r 0 _ (by omega) rfl, r 1 _ (by omega) rfl, r 2 _ (by omega) rfl, r 3 _ (by omega) rfl, own_fin slot_len hs⟩
  · obtain ⟨g, rfl, _, hg⟩ := own_at b1 (by omega)
    obtain ⟨cs, e, ra', rc', ka, kc, rfl, hs, hs2⟩ := b2.get i hi
    have hl : ∀ cs ∈ b, cs.length = 2 := fun cs hc => by
      obtain ⟨k, hk, rfl⟩ := List.mem_iff_getElem.1 hc
      obtain ⟨cs', e', _, _, _, _, rfl, _, _⟩ := b2.get k (by rw [← b2.len]; exact hk)
      rw [List.getElem?_eq_getElem hk] at e'
      rw [Option.some.inj e']
      rfl
    have r : ∀ j v, j < 2 → [Value.slice ra' m.comps[i].roots.length rc', .slice ka m.comps[i].code.length kc][j]? = some v → w.cell? ⟨g, 0 + i * 2 + j, none⟩ = some v := fun j v hj hv => by
      rw [Nat.zero_add]
      exact own_cell b1 rfl _ _ ((flatten_get hl i j _ e hj).trans hv)
    exact ⟨g, 0, ra', rc', ka, kc, rfl, hg, hg, r 0 _ (by omega) rfl, r 1 _ (by omega) rfl, own_fin root_len hs, own_lin hs2⟩
  · obtain ⟨g, rfl, _, hg⟩ := own_at c1 (by omega)
    obtain ⟨cs, e, xa, xc, ya, yc, rfl, hs, hs2⟩ := c2.get i hi
    have hl : ∀ cs ∈ c, cs.length = 4 := fun cs hc => by
      obtain ⟨k, hk, rfl⟩ := List.mem_iff_getElem.1 hc
      obtain ⟨cs', e', _, _, _, _, rfl, _, _⟩ := c2.get k (by rw [← c2.len]; exact hk)
      rw [List.getElem?_eq_getElem hk] at e'
      rw [Option.some.inj e']
      rfl
    have r : ∀ j v, j < 4 → [Value.int .i64 m.gates[i].c, .int .i64 m.gates[i].e, .slice xa m.gates[i].args.length xc, .slice ya m.gates[i].res.length yc][j]? = some v → w.cell? ⟨g, 0 + i * 4 + j, none⟩ = some v := fun j v hj hv => by
      rw [Nat.zero_add]
      exact own_cell c1 rfl _ _ ((flatten_get hl i j _ e hj).trans hv)
    exact ⟨g, 0, xa, xc, ya, yc, rfl, hg, hg, r 0 _ (by omega) rfl, r 1 _ (by omega) rfl, r 2 _ (by omega) rfl, r 3 _ (by omega) rfl, own_fin typ_len hs, own_fin typ_len hs2⟩
theorem kindP_rng (S : List UInt8) (σ : RS) : (kindP S σ).1.Rng := by
  unfold kindP
  split
  · simp [zTyp, PTyp.Rng, W64, B8, J64]
  · split
    · have a := num8 S (takeS S 1 σ)
      have b := num8 S (takeS S 8 (takeS S 1 σ))
      have c := num8 S (takeS S 8 (takeS S 8 (takeS S 1 σ)))
      have d := num8 S (takeS S 8 (takeS S 8 (takeS S 8 (takeS S 1 σ))))
      have e := num1 S (takeS S 8 (takeS S 8 (takeS S 8 (takeS S 8 (takeS S 1 σ)))))
      have f := num1 S (takeS S 1 (takeS S 8 (takeS S 8 (takeS S 8 (takeS S 8 (takeS S 1 σ))))))
      exact ⟨a, b, c, d, e, by show J64 (numV S 1 _); unfold J64; omega⟩
    · simp [zTyp, PTyp.Rng, W64, B8, J64]
theorem slotP_rng (S : List UInt8) (σ : RS) : (slotP S σ).1.Rng := ⟨kindP_rng S σ, num8 S _⟩
theorem rootP_rng (S : List UInt8) (σ : RS) : (rootP S σ).1.Rng := by
  have a := num1 S σ
  have f := num1 S (takeS S 1 (takeS S 8 (takeS S 8 (takeS S 8 (takeS S 1 σ)))))
  exact ⟨by show J64 (numV S 1 _); unfold J64; omega, num8 S _, num8 S _, num8 S _, num1 S _, by show J64 (numV S 1 _); unfold J64; omega⟩
theorem regP_rng (S : List UInt8) (σ : RS) : (regP S σ).1.Rng := by
  have a := num4 S σ
  have b := num4 S (takeS S 4 σ)
  have c := num2 S (takeS S 4 (takeS S 4 σ))
  have d := num2 S (regS S σ)
  have hk : regK S σ ≤ 65535 := by unfold regK; omega
  have hd : regD S σ ≤ 65535 := by unfold regD; omega
  unfold regP
  split
  · have l := listF_len (f := slotP S) (regK S σ) (regS S σ) []
    refine ⟨by show W64 (numV S 4 _); unfold W64; omega, by show W64 (numV S 4 _); unfold W64; omega, by show ([] : List UInt8).length ≤ maxG; simp, by simp only [List.length_nil] at l; show (listF (slotP S) (regK S σ) (regS S σ) []).1.length ≤ maxG; unfold maxG; omega, listF_all (fun σ => slotP_rng S σ) _ _ _ (by simp)⟩
  · have l := takeV_len S (regD S σ) (takeS S 2 (regS S σ))
    refine ⟨by show W64 (numV S 4 _); unfold W64; omega, by show W64 (numV S 4 _); unfold W64; omega, by show (takeV S (regD S σ) (takeS S 2 (regS S σ))).length ≤ maxG; unfold maxG; omega, by show ([] : List PSlot).length ≤ maxG; simp, by simp⟩
theorem decA_rng {T : List UInt8} (hT : T.length ≤ 1000000) : (decA T).1.length ≤ 1000000 ∧ OpsIn (decA T).1 := by
  by_cases h : (decA T).2.1 = 0
  · obtain ⟨L, e, _, ho, hc⟩ := decA_ok h
    rw [e]
    refine ⟨?_, ho⟩
    have := code_length L
    rw [hc] at this
    show L.length ≤ 1000000
    omega
  · rw [(decA_bad h).1]
    exact ⟨by simp, fun k hk => by simp at hk⟩
theorem compP_rng (S : List UInt8) (σ : RS) (hS : S.length ≤ 1000000) : (compP S σ).1.Rng := by
  have a := num1 S σ
  have l := listF_len (f := rootP S) (numV S 1 σ).toNat (takeS S 1 σ) []
  have hw := whole_le S (numV S 2 (rootsP S σ).2).toNat (takeS S 2 (rootsP S σ).2)
  have hv := takeV_len S (wholeN S (numV S 2 (rootsP S σ).2).toNat (takeS S 2 (rootsP S σ).2) * 8) (takeS S 2 (rootsP S σ).2)
  have hd := decA_rng (T := takeV S (wholeN S (numV S 2 (rootsP S σ).2).toNat (takeS S 2 (rootsP S σ).2) * 8) (takeS S 2 (rootsP S σ).2)) (by omega)
  exact ⟨by simp only [List.length_nil] at l; show (listF (rootP S) (numV S 1 σ).toNat (takeS S 1 σ) []).1.length ≤ maxG; unfold maxG; omega, Nat.le_trans hd.1 (by unfold maxI; omega), hd.2, listF_all (fun σ => rootP_rng S σ) _ _ _ (by simp)⟩
theorem kindsP_rng (S : List UInt8) (σ : RS) : (kindsP S σ).1.length ≤ maxG ∧ ∀ k ∈ (kindsP S σ).1, k.Rng := by
  have a := num1 S σ
  have l := listF_len (f := kindP S) (numV S 1 σ).toNat (takeS S 1 σ) []
  exact ⟨by simp only [List.length_nil] at l; show (listF (kindP S) (numV S 1 σ).toNat (takeS S 1 σ) []).1.length ≤ maxG; unfold maxG; omega, listF_all (fun σ => kindP_rng S σ) _ _ _ (by simp)⟩
theorem gateP_rng (S : List UInt8) (σ : RS) : (gateP S σ).1.Rng := by
  have a := num1 S σ
  have b := num2 S (takeS S 1 σ)
  have c := kindsP_rng S (gateS S σ)
  have d := kindsP_rng S (kindsP S (gateS S σ)).2
  exact ⟨by show J64 (numV S 1 _); unfold J64; omega, by show J64 (numV S 2 _); unfold J64; omega, c.1, d.1, c.2, d.2⟩
theorem imgP_rng (S : List UInt8) (hS : S.length ≤ 1000000) : (imgP S).1.Rng := by
  unfold imgP
  split
  · have a := num1 S (h1S S)
    have b := num1 S (h2S S)
    have c := num1 S (h3S S)
    have d := num1 S h0S
    have l1 := listF_len (f := regP S) (numV S 1 (h1S S)).toNat (h4S S) []
    have l2 := listF_len (f := compP S) (numV S 1 (h2S S)).toNat (regsP S).2 []
    have l3 := listF_len (f := gateP S) (numV S 1 (h3S S)).toNat (compsP S).2 []
    simp only [List.length_nil] at l1 l2 l3
    refine ⟨⟨?_, listF_all (fun σ => regP_rng S σ) _ _ _ (by simp)⟩, ⟨?_, listF_all (fun σ => compP_rng S σ hS) _ _ _ (by simp)⟩, ⟨?_, listF_all (fun σ => gateP_rng S σ) _ _ _ (by simp)⟩, by show J64 (numV S 1 _); unfold J64; omega⟩
    · show (listF (regP S) (numV S 1 (h1S S)).toNat (h4S S) []).1.length ≤ maxG
      unfold maxG; omega
    · show (listF (compP S) (numV S 1 (h2S S)).toNat (regsP S).2 []).1.length ≤ maxG
      unfold maxG; omega
    · show (listF (gateP S) (numV S 1 (h3S S)).toNat (compsP S).2 []).1.length ≤ maxG
      unfold maxG; omega
  · exact ⟨⟨by simp [zImg], by simp [zImg]⟩, ⟨by simp [zImg], by simp [zImg]⟩, ⟨by simp [zImg], by simp [zImg]⟩, by simp [zImg, J64]⟩
theorem zOwn (lo : Nat) (w : World) : ImgOwn lo w (.slice none 0 0) (.slice none 0 0) (.slice none 0 0) zImg := ⟨⟨[], ⟨rfl, .inl ⟨rfl, rfl⟩⟩, trivial⟩, ⟨[], ⟨rfl, .inl ⟨rfl, rfl⟩⟩, trivial⟩, ⟨[], ⟨rfl, .inl ⟨rfl, rfl⟩⟩, trivial⟩⟩
/-- What Decode's answer is, of a world. -/
def DecIs (w w' : World) (d : PImg × Int × Int) (x : Ending) : Prop := ∃ ra rc ca cc ga gc, x = .returned (.tuple #[.agg #[.slice ra d.1.regs.length rc, .slice ca d.1.comps.length cc, .slice ga d.1.gates.length gc, .int .i64 d.1.depth], .int .i64 d.2.1, .int .i64 d.2.2]) ∧ ImgOwn w.heap.size w' (.slice ra d.1.regs.length rc) (.slice ca d.1.comps.length cc) (.slice ga d.1.gates.length gc) d.1 ∧ Below w.heap.size w w'

set_option maxRecDepth 10000 in
set_option maxHeartbeats 4000000 in
theorem imgDecode_any (S : List UInt8) (w : World) (ht : TabIn w) :
    Calls Tryz.prog 12 #[.string (str S)] w fun x w' => DecIs w w' (decI S) x := by
  have ss := str_size S
  by_cases hl : 40000 < S.length
  · have r1 : decI S = (zImg, 42, 0) := if_pos hl
    have hl' : (40000 : Int) < S.length := by omega
    rw [r1]
    have hBe := Hid.mk ((Gr.refl w).alloc (.cells #[.slice none 0 0, .slice none 0 0, .slice none 0 0, .int .i64 0] 26)).below
    have X := Box.new w #[.slice none 0 0, .slice none 0 0, .slice none 0 0, .int .i64 0] 26
    have ⟨z0, p0, f0⟩ := X.at
    clear r1 X
    go_enter Tryz.func12, Tryz.ntmps12
    go_wp2_with fail
    simp [bodyPost, results, Tryz.results12, go_sem, p0]
    exact ⟨none, 0, none, 0, none, 0, rfl, zOwn _ _, hBe.out⟩
  have hl' : ¬ (40000 : Int) < S.length := by omega
  have r1 : decI S = if (imgP S).2.e = 0 then (if (imgP S).1.right = 0 then ((imgP S).1, 0, 0) else (zImg, (imgP S).1.right, 0)) else (zImg, (imgP S).2.e, (imgP S).2.p) := if_neg hl
  rw [r1]
  have hi := fun kr W h0 h1 h2 => rimage_any S kr W h0 h1 h2 (by omega)
  have hr := imgP_rng S (by omega)
  have h2 := ht.size
  clear r1
  generalize imgP S = q at *
  obtain ⟨m, τ⟩ := q
  simp only at hi hr ⊢
  have hR := fun ra ca ga rc cc gc W h0 h1 => imgRight_any m ra ca ga rc cc gc W h0 h1 hr
  by_cases he : τ.e = 0
  case neg =>
    rw [if_neg he]
    have hG0 : Gr w ((w.alloc (.cells #[.slice none 0 0, .slice none 0 0, .slice none 0 0, .int .i64 0] 26)).alloc (.cells #[.string (str S), .int .i64 0, .int .i64 0, .int .i64 0] 82)) := ((Gr.refl w).alloc _).alloc _
    have X : Box ((w.alloc (.cells #[.slice none 0 0, .slice none 0 0, .slice none 0 0, .int .i64 0] 26)).alloc (.cells #[.string (str S), .int .i64 0, .int .i64 0, .int .i64 0] 82)) w.heap.size #[.slice none 0 0, .slice none 0 0, .slice none 0 0, .int .i64 0] 26 := (Box.new w _ _).alloc _
    have ht0 := ht.gr hG0
    replace hG0 := Hid.mk hG0
    replace X := Hid.mk X
    replace ht0 := Hid.mk ht0
    replace ht := Hid.mk ht
    replace hr := Hid.mk hr
    go_enter Tryz.func12, Tryz.ntmps12
    go_wp2_with fail
    refine (hi (w.heap.size + 1) _ ht0.out (by omega) (Box.next _ _ _ _)).mono ?_
    rintro x w1 ⟨ra, rc, ca, cc, ga, gc, rfl, hO, h1, hg⟩
    replace X := Hid.mk (X.out.kept hg (by omega))
    have hBe := Hid.mk (hG0.out.below.trans (Below.of_grown hg (gr_size hG0.out) (fun q e => by cases e; omega)))
    replace hO := hO.base (gr_size hG0.out)
    have hT : TabIn w1 := ht.out.below hBe.out h2
    have hG1 : Gr w1 (w1.alloc (.cells #[.slice ra m.regs.length rc, .slice ca m.comps.length cc, .slice ga m.gates.length gc, .int .i64 m.depth] 26)) := (Gr.refl w1).alloc _
    have hO1 := hO.step (grown_of hG1.below none) (ne7_none _)
    have X1 := X.out.gr hG1
    have hB1 := hBe.out.trans (hG1.below.mono hBe.out.size)
    have ⟨z0, p0, f0⟩ := (h1.gr hG1).at
    have c1 := hR ra ca ga rc cc gc (w1.alloc (.cells #[.slice ra m.regs.length rc, .slice ca m.comps.length cc, .slice ga m.gates.length gc, .int .i64 m.depth] 26)) (hT.gr hG1) hO1.into
    clear hi hR hG0 hG1 hg hO hBe X
    have X := Hid.mk X1
    have hBe := Hid.mk hB1
    replace hO1 := Hid.mk hO1
    replace h1 := Hid.mk h1
    clear X1 hB1
    have he' : (τ.e != 0) = true := by simpa using he
    replace he := Hid.mk he
    have ⟨z1, p1, f1⟩ := X.out.at
    clear c1
    go_wp2_with fail
    clear z0 p0 f0 z1 p1 f1
    refine wp_world (fun W => RIn W (w.heap.size + 1) S τ ∧ Box W w.heap.size #[.slice none 0 0, .slice none 0 0, .slice none 0 0, .int .i64 0] 26 ∧ Below w.heap.size w W) ⟨h1.out.alloc _, X.out, hBe.out⟩ ?_
    clear h1 X hBe hO1 hT ht0
    rintro W ⟨h1, X, hBe⟩
    have ⟨z0, p0, f0⟩ := h1.at
    have ⟨z1, p1, f1⟩ := X.at
    replace h1 := Hid.mk h1
    replace X := Hid.mk X
    replace hBe := Hid.mk hBe
    go_region
    go_wp2_with fail
    have b4 : Box (((((W).setCell ⟨w.heap.size, 0, none⟩ (.slice none 0 0)).setCell ⟨w.heap.size, 1, none⟩ (.slice none 0 0)).setCell ⟨w.heap.size, 2, none⟩ (.slice none 0 0)).setCell ⟨w.heap.size, 3, none⟩ (.int .i64 0)) w.heap.size #[.slice none 0 0, .slice none 0 0, .slice none 0 0, .int .i64 0] 26 := Box.setRow X.out [.slice none 0 0, .slice none 0 0, .slice none 0 0, .int .i64 0] rfl
    have hB4 : Below w.heap.size w (((((W).setCell ⟨w.heap.size, 0, none⟩ (.slice none 0 0)).setCell ⟨w.heap.size, 1, none⟩ (.slice none 0 0)).setCell ⟨w.heap.size, 2, none⟩ (.slice none 0 0)).setCell ⟨w.heap.size, 3, none⟩ (.int .i64 0)) := ((((hBe.out.setCell (p := ⟨w.heap.size, 0, none⟩) (Nat.le_refl _) (.slice none 0 0)).setCell (p := ⟨w.heap.size, 1, none⟩) (Nat.le_refl _) (.slice none 0 0)).setCell (p := ⟨w.heap.size, 2, none⟩) (Nat.le_refl _) (.slice none 0 0)).setCell (p := ⟨w.heap.size, 3, none⟩) (Nat.le_refl _) (.int .i64 0))
    have ⟨_, q4, _⟩ := b4.at
    clear b4
    generalize ((((W).setCell ⟨w.heap.size, 0, none⟩ (.slice none 0 0)).setCell ⟨w.heap.size, 1, none⟩ (.slice none 0 0)).setCell ⟨w.heap.size, 2, none⟩ (.slice none 0 0)).setCell ⟨w.heap.size, 3, none⟩ (.int .i64 0) = W4 at *
    simp [bodyPost, results, Tryz.results12, go_sem, q4]
    exact ⟨none, 0, none, 0, none, 0, rfl, zOwn _ _, Below.drew hB4⟩
  rw [if_pos he]
  by_cases hb : m.right = 0
  case neg =>
    rw [if_neg hb]
    have hG0 : Gr w ((w.alloc (.cells #[.slice none 0 0, .slice none 0 0, .slice none 0 0, .int .i64 0] 26)).alloc (.cells #[.string (str S), .int .i64 0, .int .i64 0, .int .i64 0] 82)) := ((Gr.refl w).alloc _).alloc _
    have X : Box ((w.alloc (.cells #[.slice none 0 0, .slice none 0 0, .slice none 0 0, .int .i64 0] 26)).alloc (.cells #[.string (str S), .int .i64 0, .int .i64 0, .int .i64 0] 82)) w.heap.size #[.slice none 0 0, .slice none 0 0, .slice none 0 0, .int .i64 0] 26 := (Box.new w _ _).alloc _
    have ht0 := ht.gr hG0
    replace hG0 := Hid.mk hG0
    replace X := Hid.mk X
    replace ht0 := Hid.mk ht0
    replace ht := Hid.mk ht
    replace hr := Hid.mk hr
    go_enter Tryz.func12, Tryz.ntmps12
    go_wp2_with fail
    refine (hi (w.heap.size + 1) _ ht0.out (by omega) (Box.next _ _ _ _)).mono ?_
    rintro x w1 ⟨ra, rc, ca, cc, ga, gc, rfl, hO, h1, hg⟩
    replace X := Hid.mk (X.out.kept hg (by omega))
    have hBe := Hid.mk (hG0.out.below.trans (Below.of_grown hg (gr_size hG0.out) (fun q e => by cases e; omega)))
    replace hO := hO.base (gr_size hG0.out)
    have hT : TabIn w1 := ht.out.below hBe.out h2
    have hG1 : Gr w1 (w1.alloc (.cells #[.slice ra m.regs.length rc, .slice ca m.comps.length cc, .slice ga m.gates.length gc, .int .i64 m.depth] 26)) := (Gr.refl w1).alloc _
    have hO1 := hO.step (grown_of hG1.below none) (ne7_none _)
    have X1 := X.out.gr hG1
    have hB1 := hBe.out.trans (hG1.below.mono hBe.out.size)
    have ⟨z0, p0, f0⟩ := (h1.gr hG1).at
    have c1 := hR ra ca ga rc cc gc (w1.alloc (.cells #[.slice ra m.regs.length rc, .slice ca m.comps.length cc, .slice ga m.gates.length gc, .int .i64 m.depth] 26)) (hT.gr hG1) hO1.into
    clear hi hR hG0 hG1 hg hO hBe X
    have X := Hid.mk X1
    have hBe := Hid.mk hB1
    replace hO1 := Hid.mk hO1
    replace h1 := Hid.mk h1
    clear X1 hB1
    have he' : (τ.e != 0) = false := by simpa using he
    replace he := Hid.mk he
    have Mb := Hid.mk (Box.new w1 #[.slice ra m.regs.length rc, .slice ca m.comps.length cc, .slice ga m.gates.length gc, .int .i64 m.depth] 26)
    go_wp2_with fail
    refine c1.mono ?_
    rintro x w2 ⟨rfl, hG2⟩
    replace Mb := Hid.mk (Mb.out.gr hG2)
    replace X := Hid.mk (X.out.gr hG2)
    replace hO1 := Hid.mk (hO1.out.step (grown_of hG2.below none) (ne7_none _))
    replace hBe := Hid.mk (hBe.out.trans (hG2.below.mono hBe.out.size))
    have ⟨z1, p1, f1⟩ := X.out.at
    have ⟨z2, p2, f2⟩ := Mb.out.at
    clear z0 p0 f0 hG2 c1
    have hb' : (m.right != 0) = true := by simpa using hb
    replace hb := Hid.mk hb
    go_wp2_with fail
    have b4 : Box (((((w2).setCell ⟨w.heap.size, 0, none⟩ (.slice none 0 0)).setCell ⟨w.heap.size, 1, none⟩ (.slice none 0 0)).setCell ⟨w.heap.size, 2, none⟩ (.slice none 0 0)).setCell ⟨w.heap.size, 3, none⟩ (.int .i64 0)) w.heap.size #[.slice none 0 0, .slice none 0 0, .slice none 0 0, .int .i64 0] 26 := Box.setRow X.out [.slice none 0 0, .slice none 0 0, .slice none 0 0, .int .i64 0] rfl
    have hB4 : Below w.heap.size w (((((w2).setCell ⟨w.heap.size, 0, none⟩ (.slice none 0 0)).setCell ⟨w.heap.size, 1, none⟩ (.slice none 0 0)).setCell ⟨w.heap.size, 2, none⟩ (.slice none 0 0)).setCell ⟨w.heap.size, 3, none⟩ (.int .i64 0)) := ((((hBe.out.setCell (p := ⟨w.heap.size, 0, none⟩) (Nat.le_refl _) (.slice none 0 0)).setCell (p := ⟨w.heap.size, 1, none⟩) (Nat.le_refl _) (.slice none 0 0)).setCell (p := ⟨w.heap.size, 2, none⟩) (Nat.le_refl _) (.slice none 0 0)).setCell (p := ⟨w.heap.size, 3, none⟩) (Nat.le_refl _) (.int .i64 0))
    have ⟨_, q4, _⟩ := b4.at
    clear b4
    generalize ((((w2).setCell ⟨w.heap.size, 0, none⟩ (.slice none 0 0)).setCell ⟨w.heap.size, 1, none⟩ (.slice none 0 0)).setCell ⟨w.heap.size, 2, none⟩ (.slice none 0 0)).setCell ⟨w.heap.size, 3, none⟩ (.int .i64 0) = W4 at *
    simp [bodyPost, results, Tryz.results12, go_sem, q4]
    exact ⟨none, 0, none, 0, none, 0, rfl, zOwn _ _, hB4⟩
  rw [if_pos hb]
  have hG0 : Gr w ((w.alloc (.cells #[.slice none 0 0, .slice none 0 0, .slice none 0 0, .int .i64 0] 26)).alloc (.cells #[.string (str S), .int .i64 0, .int .i64 0, .int .i64 0] 82)) := ((Gr.refl w).alloc _).alloc _
  have X : Box ((w.alloc (.cells #[.slice none 0 0, .slice none 0 0, .slice none 0 0, .int .i64 0] 26)).alloc (.cells #[.string (str S), .int .i64 0, .int .i64 0, .int .i64 0] 82)) w.heap.size #[.slice none 0 0, .slice none 0 0, .slice none 0 0, .int .i64 0] 26 := (Box.new w _ _).alloc _
  have ht0 := ht.gr hG0
  replace hG0 := Hid.mk hG0
  replace X := Hid.mk X
  replace ht0 := Hid.mk ht0
  replace ht := Hid.mk ht
  replace hr := Hid.mk hr
  go_enter Tryz.func12, Tryz.ntmps12
  go_wp2_with fail
  refine (hi (w.heap.size + 1) _ ht0.out (by omega) (Box.next _ _ _ _)).mono ?_
  rintro x w1 ⟨ra, rc, ca, cc, ga, gc, rfl, hO, h1, hg⟩
  replace X := Hid.mk (X.out.kept hg (by omega))
  have hBe := Hid.mk (hG0.out.below.trans (Below.of_grown hg (gr_size hG0.out) (fun q e => by cases e; omega)))
  replace hO := hO.base (gr_size hG0.out)
  have hT : TabIn w1 := ht.out.below hBe.out h2
  have hG1 : Gr w1 (w1.alloc (.cells #[.slice ra m.regs.length rc, .slice ca m.comps.length cc, .slice ga m.gates.length gc, .int .i64 m.depth] 26)) := (Gr.refl w1).alloc _
  have hO1 := hO.step (grown_of hG1.below none) (ne7_none _)
  have X1 := X.out.gr hG1
  have hB1 := hBe.out.trans (hG1.below.mono hBe.out.size)
  have ⟨z0, p0, f0⟩ := (h1.gr hG1).at
  have c1 := hR ra ca ga rc cc gc (w1.alloc (.cells #[.slice ra m.regs.length rc, .slice ca m.comps.length cc, .slice ga m.gates.length gc, .int .i64 m.depth] 26)) (hT.gr hG1) hO1.into
  clear hi hR hG0 hG1 hg hO hBe X
  have X := Hid.mk X1
  have hBe := Hid.mk hB1
  replace hO1 := Hid.mk hO1
  replace h1 := Hid.mk h1
  clear X1 hB1
  have he' : (τ.e != 0) = false := by simpa using he
  replace he := Hid.mk he
  have Mb := Hid.mk (Box.new w1 #[.slice ra m.regs.length rc, .slice ca m.comps.length cc, .slice ga m.gates.length gc, .int .i64 m.depth] 26)
  go_wp2_with fail
  refine c1.mono ?_
  rintro x w2 ⟨rfl, hG2⟩
  replace Mb := Hid.mk (Mb.out.gr hG2)
  replace X := Hid.mk (X.out.gr hG2)
  replace hO1 := Hid.mk (hO1.out.step (grown_of hG2.below none) (ne7_none _))
  replace hBe := Hid.mk (hBe.out.trans (hG2.below.mono hBe.out.size))
  have ⟨z1, p1, f1⟩ := X.out.at
  have ⟨z2, p2, f2⟩ := Mb.out.at
  clear z0 p0 f0 hG2 c1
  have hb' : (m.right != 0) = false := by simpa using hb
  replace hb := Hid.mk hb
  go_wp2_with fail
  have b4 : Box (((((w2).setCell ⟨w.heap.size, 0, none⟩ (.slice ra m.regs.length rc)).setCell ⟨w.heap.size, 1, none⟩ (.slice ca m.comps.length cc)).setCell ⟨w.heap.size, 2, none⟩ (.slice ga m.gates.length gc)).setCell ⟨w.heap.size, 3, none⟩ (.int .i64 m.depth)) w.heap.size #[.slice ra m.regs.length rc, .slice ca m.comps.length cc, .slice ga m.gates.length gc, .int .i64 m.depth] 26 := Box.setRow X.out [.slice ra m.regs.length rc, .slice ca m.comps.length cc, .slice ga m.gates.length gc, .int .i64 m.depth] rfl
  have hB4 : Below w.heap.size w (((((w2).setCell ⟨w.heap.size, 0, none⟩ (.slice ra m.regs.length rc)).setCell ⟨w.heap.size, 1, none⟩ (.slice ca m.comps.length cc)).setCell ⟨w.heap.size, 2, none⟩ (.slice ga m.gates.length gc)).setCell ⟨w.heap.size, 3, none⟩ (.int .i64 m.depth)) := ((((hBe.out.setCell (p := ⟨w.heap.size, 0, none⟩) (Nat.le_refl _) (.slice ra m.regs.length rc)).setCell (p := ⟨w.heap.size, 1, none⟩) (Nat.le_refl _) (.slice ca m.comps.length cc)).setCell (p := ⟨w.heap.size, 2, none⟩) (Nat.le_refl _) (.slice ga m.gates.length gc)).setCell (p := ⟨w.heap.size, 3, none⟩) (Nat.le_refl _) (.int .i64 m.depth))
  have O4 : ImgOwn w.heap.size (((((w2).setCell ⟨w.heap.size, 0, none⟩ (.slice ra m.regs.length rc)).setCell ⟨w.heap.size, 1, none⟩ (.slice ca m.comps.length cc)).setCell ⟨w.heap.size, 2, none⟩ (.slice ga m.gates.length gc)).setCell ⟨w.heap.size, 3, none⟩ (.int .i64 m.depth)) (.slice ra m.regs.length rc) (.slice ca m.comps.length cc) (.slice ga m.gates.length gc) m := ImgOwn.row (by decide) [.slice ra m.regs.length rc, .slice ca m.comps.length cc, .slice ga m.gates.length gc, .int .i64 m.depth] hO1.out X.out
  have ⟨_, q4, _⟩ := b4.at
  clear z1 p1 f1 z2 p2 f2 X Mb hBe hO1 b4
  generalize ((((w2).setCell ⟨w.heap.size, 0, none⟩ (.slice ra m.regs.length rc)).setCell ⟨w.heap.size, 1, none⟩ (.slice ca m.comps.length cc)).setCell ⟨w.heap.size, 2, none⟩ (.slice ga m.gates.length gc)).setCell ⟨w.heap.size, 3, none⟩ (.int .i64 m.depth) = W4 at *
  simp [bodyPost, results, Tryz.results12, go_sem, q4]
  exact ⟨ra, rc, ca, cc, ga, gc, rfl, O4, hB4⟩
end Go.Proofs.YtmmakknhaacplaaGreatDoor


/-
  Stage 4, image: whole lists, copied into new memory.
-/
namespace Go.Proofs.YtmmakknhaacplaaGreatDoor
open Go.RowKit

/-- So many things as a row may have. -/
def Fit (n : Nat) : Prop := n * 64 ≤ 140737488355328
def FitB (k n : Nat) : Prop := n * k ≤ 140737488355328
theorem news_fin {α : Type} {k : Nat} {vals : α → List Value} (hv : ∀ x, (vals x).length = k) (hk : 0 < k) {w : World} {B : Nat} {a : Addr} {M : List α} (h : FIn k vals B w (some a) M) : ∀ j u, (M.flatMap vals)[j]? = some u → w.cell? (a.add j) = some u := by
  intro j u hj
  have hlen : (M.flatMap vals).length = M.length * k := by
    clear hj h
    induction M with
    | nil => simp
    | cons x M ih => rw [List.flatMap_cons, List.length_append, ih, hv, List.length_cons, Nat.succ_mul]; omega
  have hjl : j < M.length * k := by
    have := (List.getElem?_eq_some_iff.1 hj).1
    rwa [hlen] at this
  have hq : j / k < M.length := Nat.div_lt_of_lt_mul (by rw [Nat.mul_comm]; exact hjl)
  have hm : j % k < k := Nat.mod_lt _ hk
  obtain ⟨b, off, ha, _, _, hc⟩ := h (j / k) hq
  cases ha
  have ea : (⟨b, off, none⟩ : Addr).add j = ⟨b, off + j, none⟩ := by by_cases h0 : j = 0 <;> simp [Addr.add, h0]
  have hg := flatMap_get hv M (j / k) (j % k) hq hm
  have ej : j / k * k + j % k = j := by rw [Nat.mul_comm]; exact Nat.div_add_mod j k
  rw [ej, hj] at hg
  have := hc (j % k) hm
  rw [Nat.add_assoc, ej] at this
  rw [ea, this, ← hg]
theorem flatMap_len {α : Type} {k : Nat} {vals : α → List Value} (hv : ∀ x, (vals x).length = k) (M : List α) : (M.flatMap vals).length = M.length * k := by
  induction M with
  | nil => simp
  | cons x M ih => rw [List.flatMap_cons, List.length_append, ih, hv, List.length_cons, Nat.succ_mul]; omega
/-- A whole list, appended to none. -/
theorem wpList_append_all {α : Type} {k : Nat} {vals : α → List Value} (hv : ∀ x, (vals x).length = k) (hk : 0 < k) (h1c : ∀ x, ∀ u ∈ vals x, u.oneCell' = true)
    {ops : Array Oper} {rest : List Oper} {o : Oper} {a : Act} {Q : Exit → Act → World → Prop} {w : World} (hgd : o.guard = none) (s x : Operand) (t e : TypeId) (z : Value) (bytes : Nat)
    (ho : o.op = .call { callee := .builtin .append, args := #[s, x], argTypes := #[t, t] }) (ht : Tryz.prog.underlying t = some (.slice e))
    (hi : (Tryz.prog.info? e).map (fun i => (i.zero, i.size, i.bytes)) = some (some z, k, bytes)) (hz : z.cells.size = k) (hby : 0 < bytes)
    (M : List α) (hs : a.eval s = .slice none 0 0) (ax : Option Addr) (c : Nat) (hx : a.eval x = .slice ax M.length c) (B : Nat) (hM : FIn k vals B w ax M) (hlen : FitB bytes M.length)
    (h : ∀ v' w', w'.ownsRow w.heap.size e k v' M.length (M.flatMap vals) → w.grownBy w' none → wpList Tryz.prog ops Q rest (a.put o.dst v') w') :
    wpList Tryz.prog ops Q (o :: rest) a w := by
  obtain ⟨i0, hi0, hz0, hz1, hz2⟩ := info_parts hi
  cases ax with
  | none =>
    have hM0 : M = [] := by
      cases M with
      | nil => rfl
      | cons y M =>
        obtain ⟨b, off, e, _⟩ := hM 0 (by simp)
        cases e
    subst hM0
    refine wpList_plain hgd fun K hK => ?_
    have hr : (Builtin.append_ #[t, t] o.type #[.slice none 0 0, .slice none 0 c]).run Tryz.prog w = .ok (.slice none 0 0) w := by
      simp [Builtin.append_, run_underlying ht, sizeOf, typeInfo, hi0, Builtin.lenOf, Builtin.firstCells]
    unfold Oper.wp execOp
    simp only [ho, resolve, invoke, builtin, Sem.run_bind, Sem.run_pure, Result.andThen_ok, List.map_toArray, List.map_cons, List.map_nil, hs, hx, List.length_nil, hr]
    exact hK _ _ (h (.slice none 0 0) w ⟨by simp, .inl ⟨rfl, rfl⟩⟩ ⟨rfl, rfl, rfl, Nat.le_refl _, fun _ _ _ => rfl⟩)
  | some ad =>
    unfold FitB at hlen
    have hb1 := Nat.le_mul_of_pos_right M.length hby
    have hb : (0 + M.length) * bytes ≤ 140737488355328 := by
      rw [Nat.zero_add]
      exact hlen
    refine wpList_append_own_at _ hgd s x t ho w.heap.size e i0 z k bytes ht hi0 hz0 hz1 hz2 hz hk
      (.slice none 0 0) 0 [] hs ⟨by simp, .inl ⟨rfl, rfl⟩⟩ ad M.length c (M.flatMap vals) hx (flatMap_len hv M) (news_fin hv hk hM) (fun u hu => by
        obtain ⟨y, _, hy⟩ := List.mem_flatMap.1 hu
        exact h1c y u hy) (by unfold maxLen; omega) hb (Nat.le_refl _) ?_
    intro v' w' k1 k2 _ _
    refine h v' w' ?_ k2
    simpa using k1
theorem slot_one (x : PSlot) : ∀ u ∈ x.vals, u.oneCell' = true := by
  intro u hu; simp [PSlot.vals, PTyp.vals] at hu; rcases hu with h | h | h | h | h | h | h | h <;> rw [h] <;> rfl
theorem root_one (x : PRoot) : ∀ u ∈ x.vals, u.oneCell' = true := by
  intro u hu; simp [PRoot.vals] at hu; rcases hu with h | h | h | h | h | h <;> rw [h] <;> rfl
theorem typ_one (x : PTyp) : ∀ u ∈ x.vals, u.oneCell' = true := by
  intro u hu; simp [PTyp.vals] at hu; rcases hu with h | h | h | h | h | h | h <;> rw [h] <;> rfl
theorem lin_fin {B : Nat} {w : World} {a : Option Addr} {L : List Ins} (h : LIn B w a L) : FIn 5 Ins.vals B w a L := fun i hi => by
  obtain ⟨b, off, ha, h1, h2, c0, c1, c2, c3, c4⟩ := h i hi
  refine ⟨b, off, ha, h1, h2, fun j hj => ?_⟩
  have hr : j = 0 ∨ j = 1 ∨ j = 2 ∨ j = 3 ∨ j = 4 := by omega
  rcases hr with rfl | rfl | rfl | rfl | rfl
  · exact c0
  · exact c1
  · exact c2
  · exact c3
  · exact c4
theorem ins_len (x : Ins) : x.vals.length = 5 := rfl
end Go.Proofs.YtmmakknhaacplaaGreatDoor
