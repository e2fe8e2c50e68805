import Derived.Test.YtcljibdikhpnlaaDoorQLent
/-
  Programs that are lent: lent, walked again: its lists lie apart.
-/
namespace Go.Proofs.YtcljibdikhpnlaaDoor
namespace Q
open Go.RowKit

/-- A row's lists lie between two blocks. -/
def Btw {α β : Type} (sel : β → Sl) (a b : Nat) (L : List α) (l : List β) : Prop := ∀ i, i < L.length → ∀ v, l[i]? = some v → ∃ g, (sel v).a = some ⟨g, 0, none⟩ ∧ a < g ∧ g < b
theorem sep_mono {α β : Type} {sel : β → Sl} {a b b' : Nat} {L : List α} {l : List β} (h : Btw sel a b L l) (hb : b ≤ b') : Btw sel a b' L l := fun i hi v hv => by
  obtain ⟨g, h1, h2, h3⟩ := h i hi v hv
  exact ⟨g, h1, h2, Nat.lt_of_lt_of_le h3 hb⟩
theorem btw_of {α β γ : Type} {sel : β → Sl} {ok : World → α → β → Prop} {mk : World → β → Prop} {W : World} {L : List α} {l : List β} {n k : Nat} {vals : γ → List Value} {M : γ} (el : α → List γ) (h : Done ok mk W L l n) (hn : L.length ≤ n) (hs : ∀ a b, ok W a b → LsOk vals M k W (el a) (sel b)) : Btw sel k W.heap.size L l := fun i hi v hv => by
  obtain ⟨v', h1, h2⟩ := (h i (by omega)).1 hi
  rw [hv] at h1
  cases h1
  obtain ⟨g, e, h3, h4⟩ := hs _ _ h2
  exact ⟨g, by rw [e], h3, h4.1⟩
def Btw2 {α β : Type} (s1 s2 : β → Sl) (a b : Nat) (L : List α) (l : List β) : Prop := Btw s1 a b L l ∧ Btw s2 a b L l
theorem sep_mono2 {α β : Type} {s1 s2 : β → Sl} {a b b' : Nat} {L : List α} {l : List β} (h : Btw2 s1 s2 a b L l) (hb : b ≤ b') : Btw2 s1 s2 a b' L l := ⟨sep_mono h.1 hb, sep_mono h.2 hb⟩
theorem sep_r {k n : Nat} {mk : World → RgV → Prop} {W : World} {L : List PReg} {l : List RgV} (h : Done (RgOkL k) mk W L l n) (hn : L.length ≤ n) : Btw RgV.s k W.heap.size L l := btw_of (fun r : PReg => r.slots) h hn (fun _ _ q => q.2.2.2)
theorem sep_c {k n : Nat} {mk : World → CpV → Prop} {W : World} {L : List PComp} {l : List CpV} (h : Done (CpOkL k) mk W L l n) (hn : L.length ≤ n) : Btw2 CpV.r CpV.k k W.heap.size L l := ⟨btw_of (fun r : PComp => r.roots) h hn (fun _ _ q => q.1), btw_of (fun r : PComp => r.code) h hn (fun _ _ q => q.2)⟩
theorem sep_g {k n : Nat} {mk : World → GtV → Prop} {W : World} {L : List PGate} {l : List GtV} (h : Done (GtOkL k) mk W L l n) (hn : L.length ≤ n) : Btw2 GtV.x GtV.y k W.heap.size L l := ⟨btw_of (fun r : PGate => r.args) h hn (fun _ _ q => q.2.2.1), btw_of (fun r : PGate => r.res) h hn (fun _ _ q => q.2.2.2)⟩
/-- A lent program's lists lie apart. -/
structure LeSep (lo kr kc kg hi : Nat) (m : PImg) (lr : List RgV) (lc : List CpV) (lg : List GtV) : Prop where
  a : lo < kr
  b : kr < kc
  c : kc < kg
  r : Btw RgV.s kr kc m.regs lr
  cs : Btw2 CpV.r CpV.k kc kg m.comps lc
  g : Btw2 GtV.x GtV.y kg hi m.gates lg
theorem setCell_size (W : World) (p : Addr) (v : Value) : (W.setCell p v).heap.size = W.heap.size := by unfold World.setCell; simp
set_option maxRecDepth 100000 in
set_option maxHeartbeats 16000000 in
theorem lentS_any (m : PImg) (ra ca ga : Option Addr) (rc cc gc : Nat) (w : World) (hm : ImgIn w.heap.size w ra ca ga m) (hF : TwFit m) : Calls Tryd.prog 5 #[.agg [Value.slice ra m.regs.length rc, .slice ca m.comps.length cc, .slice ga m.gates.length gc, .int .i64 m.depth].toArray] w fun x w' => ∃ kk kr kc kg lr lc lg, x = .returned (.agg #[.slice (some ⟨kr, 0, none⟩) m.regs.length (m.regs.length + 8), .slice (some ⟨kc, 0, none⟩) m.comps.length (m.comps.length + 8), .slice (some ⟨kg, 0, none⟩) m.gates.length (m.gates.length + 8), .int .i64 m.depth]) ∧ Gr w w' ∧ LeIn kk kr kc kg w' m lr lc lg ∧ ∃ hi, LeSep (w.heap.size + 1 + 1) kr kc kg hi m lr lc lg := by
  have l1 : m.regs.length ≤ 281474976710648 := by have := hF.r; omega
  have l2 : m.comps.length ≤ 281474976710648 := by have := hF.c; omega
  have l3 : m.gates.length ≤ 281474976710648 := by have := hF.g; omega
  have u1w : wrap64 ((m.regs.length : Int) + 8) = (m.regs.length : Int) + 8 := w8_of _ (by omega)
  have u1x : IntKind.i64.wrap ((m.regs.length : Int) + 8) = (m.regs.length : Int) + 8 := x8_of _ (by omega)
  have u1l : (m.regs.length : Int) ≤ (m.regs.length : Int) + 8 := by omega
  have u2w : wrap64 ((m.comps.length : Int) + 8) = (m.comps.length : Int) + 8 := w8_of _ (by omega)
  have u2x : IntKind.i64.wrap ((m.comps.length : Int) + 8) = (m.comps.length : Int) + 8 := x8_of _ (by omega)
  have u2l : (m.comps.length : Int) ≤ (m.comps.length : Int) + 8 := by omega
  have u3w : wrap64 ((m.gates.length : Int) + 8) = (m.gates.length : Int) + 8 := w8_of _ (by omega)
  have u3x : IntKind.i64.wrap ((m.gates.length : Int) + 8) = (m.gates.length : Int) + 8 := x8_of _ (by omega)
  have u3l : (m.gates.length : Int) ≤ (m.gates.length : Int) + 8 := by omega
  replace hm := Hid.mk hm
  replace hF := Hid.mk hF
  have eim := Hid.mk (show [Value.slice ra m.regs.length rc, .slice ca m.comps.length cc, .slice ga m.gates.length gc, .int .i64 m.depth] = [Value.slice ra m.regs.length rc, .slice ca m.comps.length cc, .slice ga m.gates.length gc, .int .i64 m.depth] from rfl)
  generalize hIM : [Value.slice ra m.regs.length rc, .slice ca m.comps.length cc, .slice ga m.gates.length gc, .int .i64 m.depth] = im at eim
  go_enter Tryd.func5, Tryd.ntmps5
  go_upto_region 1 with fail
  refine wp_world (fun W => At W w.heap.size im.toArray ∧ At W (w.heap.size + 1) (List.toArray [Value.slice none 0 0, .slice none 0 0, .slice none 0 0, .int .i64 0]) ∧ Gr w W ∧ W.heap.size = w.heap.size + 1 + 1) ⟨by rw [← hIM]; exact (At.at_ w _ _ rfl).alloc _, At.at_ _ _ _ (by simp), ((Gr.refl w).alloc _).alloc _, by simp⟩ ?_
  rintro Wa ⟨b0, b1, G, hs⟩
  replace b0 := Hid.mk b0
  replace b1 := Hid.mk b1
  replace G := Hid.mk G
  have c3 : Wa.cell? ⟨w.heap.size, 3, none⟩ = some (.int .i64 m.depth) := by rw [b0.out.2.1, ← hIM]; rfl
  go_upto_region 2 with fail
  clear c3
  refine wp_world (fun W => Ls w im [Value.slice none 0 0, .slice none 0 0, .slice none 0 0, .int .i64 m.depth] W) ⟨b0.out.alloc _, b1.out.alloc _, At.at_ _ _ _ hs, G.out.alloc _⟩ ?_
  intro Wb S0
  replace S0 := Hid.mk S0
  clear b0 b1 G hs
  have c0 : Wb.cell? ⟨w.heap.size, 0, none⟩ = some (.slice ra m.regs.length rc) := by rw [S0.out.m.2.1, ← hIM]; rfl
  have hmk := make_k (vals := RgV.vals) (Z := rgZ) (t := 22) (e := 47) (k := 4) (b := 56) (by omega) rg_len Tryd.underlying22 (by kernel_rfl) (m.regs.length + 8) (by omega) hF.out.r Wb
  rw [show ((m.regs.length + 8 : Nat) : Int) = (m.regs.length : Int) + 8 by omega] at hmk
  have hA := Hid.mk (At.new Wb (rowV [] RgV.vals (List.replicate (m.regs.length + 8) rgZ)).toArray 47)
  have hG := Hid.mk ((Gr.refl Wb).alloc (.cells (rowV [] RgV.vals (List.replicate (m.regs.length + 8) rgZ)).toArray 47))
  have krl : w.heap.size + 1 + 1 < Wb.heap.size := S0.out.o.1
  generalize Wb.alloc _ = Wc at *
  replace S0 := Hid.mk (S0.out.grow hG.out)
  have hks := Hid.mk (Nat.le_refl Wb.heap.size)
  go_upto_region 4 with fail
  clear hmk c0
  generalize hk0 : Wb.heap.size = kr at *
  replace hks : Hid (Wb.heap.size ≤ kr) := Hid.mk (Nat.le_of_eq hk0)
  clear hk0
  go_loopw [5] (fun x wr => ∃ (i : Nat) (l : List RgV), x = .int .i64 i ∧ i ≤ m.regs.length + 8 ∧ Hid (Ls w im [Value.slice none 0 0, .slice none 0 0, .slice none 0 0, .int .i64 m.depth] wr) ∧ Hid (At wr kr (rowV [] RgV.vals l).toArray) ∧ Hid (Row3 (RgOkL kr) (isV rg77) rgZ (m.regs.length + 8) wr m.regs l i) ∧ Hid (Gr Wb wr)) (fun x _ => m.regs.length + 8 - (intOf x).toNat)
  case atStart => exact ⟨0, _, rfl, by omega, S0, hA, Hid.mk (Row3.zero _ _ _ _ _ _), hG⟩
  case round =>
    clear S0 hA hG
    obtain ⟨i, l, rfl, hi, S1, hR, D0, G⟩ := hrel
    by_cases hlt : i < m.regs.length + 8
    · have hi1 : (i : Int) < (m.regs.length : Int) + 8 := by omega
      have e9 := D0.out.rest i (Nat.le_refl _) hlt
      obtain ⟨hil, e9'⟩ := List.getElem?_eq_some_iff.1 e9
      have c1 : wr.cell? ⟨kr, i * 4, none⟩ = some (.int .u64 0) := elem_atL rg_len hR.out i _ e9 0 _ rfl
      have f1 : wr.frozen? ⟨kr, i * 4, none⟩ = false := hR.out.2.2 _
      replace hR := Hid.mk (At.setOne rg_len hR.out i hil rg77 0 (.int .u64 77) (by omega) (by rw [e9']; rfl) (i * 4) (by omega))
      replace S1 := Hid.mk (S1.out.set kr (i * 4) (.int .u64 77) krl)
      replace D0 := Hid.mk (D0.out.keep (rgL_keep ((Kt.refl kr wr).set kr (i * 4) (.int .u64 77) (.inl (Nat.le_refl _)))) (fun _ h => h))
      replace G := Hid.mk (G.out.setCell kr (i * 4) (.int .u64 77) hks.out)
      clear e9 e9'
      go_upto_region 7 with fail
      clear c1 f1
      generalize World.setCell _ _ _ = V1 at *
      by_cases hn : i < m.regs.length
      · have hin : (i : Int) < (m.regs.length : Int) := by omega
        obtain ⟨rb, off, sa, sc, hra, hb1, _, k0, k1, k2, k3, kf⟩ := hm.out.regs i hn
        subst hra
        have hfit := hF.out.rs _ (List.getElem_mem hn)
        generalize hrg : m.regs[i] = rr at k0 k1 k2 k3 kf hfit
        have sfit : rr.slots.length ≤ 281474976710648 := by omega
        have sfb := hfit
        replace hrg := Hid.mk hrg
        replace k0 := Hid.mk k0
        replace k1 := Hid.mk k1
        replace k2 := Hid.mk k2
        replace k3 := Hid.mk k3
        replace kf := Hid.mk kf
        have c0 : V1.cell? ⟨w.heap.size, 0, none⟩ = some (.slice (some ⟨rb, off, none⟩) m.regs.length rc) := by rw [S1.out.m.2.1, ← hIM]; rfl
        have d0 := ((S1.out.gr.below.cell (p := ⟨rb, off + i * 4, none⟩) hb1).trans k0.out)
        have d1 := ((S1.out.gr.below.cell (p := ⟨rb, off + i * 4 + 1, none⟩) hb1).trans k1.out)
        have d2 := ((S1.out.gr.below.cell (p := ⟨rb, off + i * 4 + 1 + 1, none⟩) hb1).trans k2.out)
        have d3 := ((S1.out.gr.below.cell (p := ⟨rb, off + i * 4 + 1 + 1 + 1, none⟩) hb1).trans k3.out)
        go_upto_region 9 with fail
        clear c0 d0 d1 d2 d3
        have bx := Hid.mk (At.new V1 (List.toArray [Value.int .u64 rr.b, .int .u64 rr.n, .string (str rr.data), .slice sa rr.slots.length sc]) 47)
        have K1 := Hid.mk (Kt.refl kr V1)
        have hkx : kr < V1.heap.size := hR.out.1
        have hkw := Hid.mk (Nat.le_refl V1.heap.size)
        have hgx := Hid.mk G.out.below.size
        have q2 := (Gr.refl V1).alloc (.cells (List.toArray [Value.int .u64 rr.b, .int .u64 rr.n, .string (str rr.data), .slice sa rr.slots.length sc]) 47)
        replace S1 := Hid.mk (S1.out.grow q2)
        replace hR := Hid.mk (hR.out.gr q2)
        replace K1 := Hid.mk (K1.out.trans (Kt.gr q2))
        replace G := Hid.mk (G.out.trans q2)
        clear q2
        generalize V1.alloc _ = V2 at *
        generalize hx0 : V1.heap.size = kx at *
        replace hkw : Hid (V1.heap.size ≤ kx) := Hid.mk (Nat.le_of_eq hx0)
        clear hx0
        have c1 : V2.cell? ⟨kx, 3, none⟩ = some (.slice sa rr.slots.length sc) := bx.out.2.1 3
        have sw : wrap64 ((rr.slots.length : Int) + 8) = (rr.slots.length : Int) + 8 := w8_of _ sfit
        have sx : IntKind.i64.wrap ((rr.slots.length : Int) + 8) = (rr.slots.length : Int) + 8 := x8_of _ sfit
        have sl : (rr.slots.length : Int) ≤ (rr.slots.length : Int) + 8 := by omega
        obtain ⟨hmk, hcp, so, q1⟩ := made_copy (b := 64) (Z := slotZ) (by omega) slt_len slt_one 3 Tryd.underlying45 (by kernel_rfl) (by kernel_rfl) rr.slots sa sc w.heap.size kx V2 (kf.out.below S1.out.gr.below) S1.out.gr.below.size sfb sfit bx.out.1
        replace so := Hid.mk so
        have q9 := Hid.mk ((Gr.refl V2).alloc (.cells (rowV [] PSlot.vals (List.replicate (rr.slots.length + 8) slotZ)).toArray 69))
        replace q1 := Hid.mk q1
        generalize World.setCells _ _ _ _ = V3 at *
        generalize V2.alloc _ = V9 at *
        go_upto_region 10 with fail
        clear hmk c1
        have c1 : V9.cell? ⟨kx, 3, none⟩ = some (.slice sa rr.slots.length sc) := (bx.out.gr q9.out).2.1 3
        go_upto_region 11 with fail
        clear hcp c1 q9
        generalize hsk : V2.heap.size = sk at *
        replace hsk := Hid.mk (Nat.le_of_eq hsk)
        have c1 : V3.cell? ⟨kx, 3, none⟩ = some (.slice sa rr.slots.length sc) := (bx.out.gr q1.out).2.1 3
        obtain ⟨g9, e9, hk9, A9⟩ := so.out
        cases e9
        clear so
        have hcl := Hid.mk (mark_any V2 V3 sk rr.slots 8 (rr.slots.length * 8) 8 rfl A9 q1.out hsk.out (by omega))
        clear A9 q1
        go_wp2_with fail
        refine hcl.out.mono ?_
        rintro x V4 ⟨rfl, q4, A4⟩
        clear c1 hcl
        have so := Hid.mk (show LsOk PSlot.vals slot77 kx V4 rr.slots ⟨some ⟨sk, 0, none⟩, rr.slots.length, rr.slots.length + 8⟩ from ⟨sk, rfl, hk9, A4⟩)
        clear A4 hk9 hsk
        replace bx := Hid.mk (bx.out.gr q4)
        replace S1 := Hid.mk (S1.out.grow q4)
        replace hR := Hid.mk (hR.out.gr q4)
        replace K1 := Hid.mk (K1.out.trans (Kt.gr q4))
        replace G := Hid.mk (G.out.trans q4)
        clear q4
        have c1 : V4.cell? ⟨kx, 3, none⟩ = some (.slice sa rr.slots.length sc) := bx.out.2.1 3
        have f1 : V4.frozen? ⟨kx, 3, none⟩ = false := bx.out.2.2 3
        go_upto_region 13 with fail
        clear c1 f1
        have x9 := Hid.mk ((Kt.refl kx V4).set kx 3 (.slice (some ⟨sk, 0, none⟩) rr.slots.length (rr.slots.length + 8)) (.inl (Nat.le_refl _)))
        replace so := Hid.mk (so.out.keep x9.out)
        replace bx := Hid.mk (show At (World.setCell V4 ⟨kx, 3, none⟩ (.slice (some ⟨sk, 0, none⟩) rr.slots.length (rr.slots.length + 8))) kx (List.toArray (RgV.vals (⟨rr.b, rr.n, rr.data, ⟨some ⟨sk, 0, none⟩, rr.slots.length, rr.slots.length + 8⟩⟩ : RgV))) from bx.out.set 3 _ (by simp))
        replace S1 := Hid.mk (S1.out.set kx 3 (.slice (some ⟨sk, 0, none⟩) rr.slots.length (rr.slots.length + 8)) (by omega))
        replace hR := Hid.mk (hR.out.other (Nat.ne_of_lt hkx) 3 [.slice (some ⟨sk, 0, none⟩) rr.slots.length (rr.slots.length + 8)])
        replace K1 := Hid.mk (K1.out.set kx 3 (.slice (some ⟨sk, 0, none⟩) rr.slots.length (rr.slots.length + 8)) (.inr hkw.out))
        replace G := Hid.mk (G.out.setCell kx 3 (.slice (some ⟨sk, 0, none⟩) rr.slots.length (rr.slots.length + 8)) hgx.out)
        clear x9
        simp only [World.setCells] at hR
        generalize World.setCell _ _ _ = V5 at *
        refine wp_region_lit ?_
        refine wpList_plain rfl (fun K hK => ?_)
        go_simp
        with_reducible refine hK _ _ ?_
        clear hK K
        try simp only [Act.put, List.setIfInBounds_toArray, List.set_cons_zero, List.set_cons_succ]
        refine wpList_plain rfl (fun K hK => ?_)
        go_simp
        with_reducible refine hK _ _ ?_
        clear hK K
        try simp only [Act.put, List.setIfInBounds_toArray, List.set_cons_zero, List.set_cons_succ]
        refine wpList_plain rfl (fun K hK => ?_)
        refine wp_load_mid _ _ rfl _ 0 rfl (RgV.vals (⟨rr.b, rr.n, rr.data, ⟨some ⟨sk, 0, none⟩, rr.slots.length, rr.slots.length + 8⟩⟩ : RgV)) _ bx.out.range Tryd.underlying47 rfl (by kernel_rfl) (hK _ _ ?_)
        clear hK K
        try simp only [Act.put, List.setIfInBounds_toArray, List.set_cons_zero, List.set_cons_succ]
        refine wpList_plain rfl (fun K hK => ?_)
        go_simp
        with_reducible refine hK _ _ ?_
        clear hK K
        try simp only [Act.put, List.setIfInBounds_toArray, List.set_cons_zero, List.set_cons_succ]
        have hT := Hid.mk (hR.out.there (i * 4) 4 (by rw [row_len rg_len, List.length_set, D0.out.len]; simp; omega))
        have x9 := Hid.mk ((Kt.refl kx V5).sets kr (i * 4) (RgV.vals (⟨rr.b, rr.n, rr.data, ⟨some ⟨sk, 0, none⟩, rr.slots.length, rr.slots.length + 8⟩⟩ : RgV)) (.inl (by omega)))
        replace so := Hid.mk ((so.out.keep x9.out).mono (Nat.le_of_lt hkx))
        replace S1 := Hid.mk (S1.out.sets kr (i * 4) (RgV.vals (⟨rr.b, rr.n, rr.data, ⟨some ⟨sk, 0, none⟩, rr.slots.length, rr.slots.length + 8⟩⟩ : RgV)) krl)
        replace hR := Hid.mk (hR.out.setElem rg_len i (by rw [List.length_set, D0.out.len]; exact hlt) (⟨rr.b, rr.n, rr.data, ⟨some ⟨sk, 0, none⟩, rr.slots.length, rr.slots.length + 8⟩⟩ : RgV) (i * 4) (by simp))
        replace K1 := Hid.mk (K1.out.sets kr (i * 4) (RgV.vals (⟨rr.b, rr.n, rr.data, ⟨some ⟨sk, 0, none⟩, rr.slots.length, rr.slots.length + 8⟩⟩ : RgV)) (.inl (Nat.le_refl _)))
        replace G := Hid.mk (G.out.setCells kr hks.out (RgV.vals (⟨rr.b, rr.n, rr.data, ⟨some ⟨sk, 0, none⟩, rr.slots.length, rr.slots.length + 8⟩⟩ : RgV)) (i * 4))
        rw [List.set_set] at hR
        refine wpList_plain rfl (fun K hK => ?_)
        refine wp_store_mid _ _ _ rfl _ _ (List.toArray (RgV.vals (⟨rr.b, rr.n, rr.data, ⟨some ⟨sk, 0, none⟩, rr.slots.length, rr.slots.length + 8⟩⟩ : RgV))) rfl rfl hT.out (by kernel_rfl) (all_oneCell_toArray (rg_one _)) (hK _ _ ?_)
        clear hK K hT x9 bx
        try simp only [Act.put]
        generalize World.setCells _ _ _ _ = V6 at *
        have D1 := Hid.mk ((D0.out.keep (rgL_keep K1.out) (fun _ h => h)).next hlt (⟨rr.b, rr.n, rr.data, ⟨some ⟨sk, 0, none⟩, rr.slots.length, rr.slots.length + 8⟩⟩ : RgV) (fun _ => by rw [hrg.out]; exact ⟨rfl, rfl, rfl, so.out⟩) (fun h => by omega))
        clear K1 so D0 hrg k0 k1 k2 k3 kf sfit sfb hfit hkw hgx
        go_wp2_with fail
        exact ⟨⟨i + 1, _, by go_num, by omega, S1, hR, D1, G⟩, by simp [intOf]; omega⟩
      · have hin : ¬ (i : Int) < (m.regs.length : Int) := by omega
        have c0 : V1.cell? ⟨w.heap.size, 0, none⟩ = some (.slice ra m.regs.length rc) := by rw [S1.out.m.2.1, ← hIM]; rfl
        have D1 := Hid.mk (D0.out.next hlt rg77 (fun h => absurd h hn) (fun _ => rfl))
        go_wp2_with fail
        exact ⟨⟨i + 1, _, by go_num, by omega, S1, hR, D1, G⟩, by simp [intOf]; omega⟩
    · have hi1 : ¬ (i : Int) < (m.regs.length : Int) + 8 := by omega
      have ei : i = m.regs.length + 8 := by omega
      subst ei
      have SR := Hid.mk (sep_r D0.out.done (by omega))
      have DR := Hid.mk (Done.imp (ok' := RgOkL (w.heap.size + 1 + 1)) D0.out.done (fun a b h => ⟨h.1, h.2.1, h.2.2.1, h.2.2.2.mono (Nat.le_of_lt krl)⟩))
      have LR := Hid.mk D0.out.len
      have AR := hR
      clear hR D0 G hks
      generalize l = lr at *
      have c0 : wr.cell? ⟨w.heap.size, 0, none⟩ = some (.slice ra m.regs.length rc) := by rw [S1.out.m.2.1, ← hIM]; rfl
      have d1 : wr.cell? ⟨w.heap.size + 1 + 1, 0, none⟩ = some (.slice none 0 0) := S1.out.o.2.1 0
      have d2 : wr.frozen? ⟨w.heap.size + 1 + 1, 0, none⟩ = false := S1.out.o.2.2 0
      go_upto_region 15 with fail
      clear c0 d1 d2
      have K9 := Hid.mk ((Kt.refl (w.heap.size + 1 + 1) wr).set (w.heap.size + 1 + 1) 0 (.slice (some ⟨kr, 0, none⟩) m.regs.length (m.regs.length + 8)) (.inl (Nat.le_refl _)))
      have S0 : Hid (Ls w im [Value.slice (some ⟨kr, 0, none⟩) m.regs.length (m.regs.length + 8), .slice none 0 0, .slice none 0 0, .int .i64 m.depth] (wr.setCell ⟨w.heap.size + 1 + 1, 0, none⟩ (.slice (some ⟨kr, 0, none⟩) m.regs.length (m.regs.length + 8)))) := Hid.mk (S1.out.setO 0 (by simp) (.slice (some ⟨kr, 0, none⟩) m.regs.length (m.regs.length + 8)))
      clear S1
      replace DR := Hid.mk (DR.out.keep (rgL_keep K9.out) (fun _ h => h))
      replace AR := Hid.mk (AR.out.other (Nat.ne_of_gt krl) 0 [.slice (some ⟨kr, 0, none⟩) m.regs.length (m.regs.length + 8)])
      simp only [World.setCells] at AR
      clear K9
      replace SR := Hid.mk (sep_mono SR.out (Nat.le_of_eq (setCell_size wr ⟨w.heap.size + 1 + 1, 0, none⟩ (.slice (some ⟨kr, 0, none⟩) m.regs.length (m.regs.length + 8))).symm))
      generalize World.setCell _ _ _ = Wd at *
      have c0 : Wd.cell? ⟨w.heap.size, 1, none⟩ = some (.slice ca m.comps.length cc) := by rw [S0.out.m.2.1, ← hIM]; rfl
      have hmk := make_k (vals := CpV.vals) (Z := cpZ) (t := 23) (e := 52) (k := 2) (b := 48) (by omega) cp_len Tryd.underlying23 (by kernel_rfl) (m.comps.length + 8) (by omega) hF.out.c Wd
      rw [show ((m.comps.length + 8 : Nat) : Int) = (m.comps.length : Int) + 8 by omega] at hmk
      have hA := Hid.mk (At.new Wd (rowV [] CpV.vals (List.replicate (m.comps.length + 8) cpZ)).toArray 52)
      have hG := Hid.mk ((Gr.refl Wd).alloc (.cells (rowV [] CpV.vals (List.replicate (m.comps.length + 8) cpZ)).toArray 52))
      have kcl : w.heap.size + 1 + 1 < Wd.heap.size := S0.out.o.1
      generalize Wd.alloc _ = We at *
      replace S0 := Hid.mk (S0.out.grow hG.out)
      have hks := Hid.mk (Nat.le_refl Wd.heap.size)
      go_upto_region 17 with fail
      clear hmk c0
      generalize hk0 : Wd.heap.size = kc at *
      replace hks : Hid (Wd.heap.size ≤ kc) := Hid.mk (Nat.le_of_eq hk0)
      clear hk0
      go_loopw [9] (fun x wr => ∃ (i : Nat) (l : List CpV), x = .int .i64 i ∧ i ≤ m.comps.length ∧ Hid (Ls w im [Value.slice (some ⟨kr, 0, none⟩) m.regs.length (m.regs.length + 8), .slice none 0 0, .slice none 0 0, .int .i64 m.depth] wr) ∧ Hid (At wr kc (rowV [] CpV.vals l).toArray) ∧ Hid (Row3 (CpOkL kc) (isV cpZ) cpZ (m.comps.length + 8) wr m.comps l i) ∧ Hid (Gr Wd wr)) (fun x _ => m.comps.length - (intOf x).toNat)
      case atStart => exact ⟨0, _, rfl, by omega, S0, hA, Hid.mk (Row3.zero _ _ _ _ _ _), hG⟩
      case round =>
        clear S0 hA hG
        obtain ⟨i, l, rfl, hi, S1, hR, D0, G⟩ := hrel
        have c0 : wr.cell? ⟨w.heap.size, 1, none⟩ = some (.slice ca m.comps.length cc) := by rw [S1.out.m.2.1, ← hIM]; rfl
        by_cases hn : i < m.comps.length
        · have hlt : i < m.comps.length + 8 := by omega
          have hin : (i : Int) < (m.comps.length : Int) := by omega
          obtain ⟨rb, off, ra', rc', ka, kc', hca, hb1, _, k0, k1, kf, kl⟩ := hm.out.comps i hn
          subst hca
          have hfit := hF.out.cs _ (List.getElem_mem hn)
          generalize hrg : m.comps[i] = rr at k0 k1 kf kl hfit
          have sfit : rr.roots.length ≤ 281474976710648 := by omega
          have pfit : rr.code.length ≤ 281474976710648 := by omega
          have sfb := hfit.1
          have pfb := hfit.2
          replace hrg := Hid.mk hrg
          replace k0 := Hid.mk k0
          replace k1 := Hid.mk k1
          replace kf := Hid.mk kf
          have kg5 := Hid.mk kl.fin5
          clear kl
          have d0 := ((S1.out.gr.below.cell (p := ⟨rb, off + i * 2, none⟩) hb1).trans k0.out)
          have d1 := ((S1.out.gr.below.cell (p := ⟨rb, off + i * 2 + 1, none⟩) hb1).trans k1.out)
          go_upto_region 20 with fail
          clear c0 d0 d1
          have bx := Hid.mk (At.new wr (List.toArray [Value.slice ra' rr.roots.length rc', .slice ka rr.code.length kc']) 52)
          have K1 := Hid.mk (Kt.refl kc wr)
          have hkx : kc < wr.heap.size := hR.out.1
          have hgx := Hid.mk G.out.below.size
          have q2 := (Gr.refl wr).alloc (.cells (List.toArray [Value.slice ra' rr.roots.length rc', .slice ka rr.code.length kc']) 52)
          replace S1 := Hid.mk (S1.out.grow q2)
          replace hR := Hid.mk (hR.out.gr q2)
          replace K1 := Hid.mk (K1.out.trans (Kt.gr q2))
          replace G := Hid.mk (G.out.trans q2)
          clear q2
          generalize wr.alloc _ = V2 at *
          generalize wr.heap.size = kx at *
          have c1 : V2.cell? ⟨kx, 0, none⟩ = some (.slice ra' rr.roots.length rc') := bx.out.2.1 0
          have sw : wrap64 ((rr.roots.length : Int) + 8) = (rr.roots.length : Int) + 8 := w8_of _ sfit
          have sx : IntKind.i64.wrap ((rr.roots.length : Int) + 8) = (rr.roots.length : Int) + 8 := x8_of _ sfit
          have sl : (rr.roots.length : Int) ≤ (rr.roots.length : Int) + 8 := by omega
          obtain ⟨hmk, hcp, so, q1⟩ := made_copy (b := 48) (Z := rootZ) (by omega) rot_len rot_one 3 Tryd.underlying49 (by kernel_rfl) (by kernel_rfl) rr.roots ra' rc' w.heap.size kx V2 (kf.out.below S1.out.gr.below) S1.out.gr.below.size sfb sfit bx.out.1
          replace so := Hid.mk so
          have q9 := Hid.mk ((Gr.refl V2).alloc (.cells (rowV [] PRoot.vals (List.replicate (rr.roots.length + 8) rootZ)).toArray 71))
          replace q1 := Hid.mk q1
          generalize World.setCells _ _ _ _ = V3 at *
          generalize V2.alloc _ = V9 at *
          go_upto_region 21 with fail
          clear hmk c1
          have c1 : V9.cell? ⟨kx, 0, none⟩ = some (.slice ra' rr.roots.length rc') := (bx.out.gr q9.out).2.1 0
          go_upto_region 22 with fail
          clear hcp c1 q9
          generalize hsk : V2.heap.size = sk at *
          replace hsk := Hid.mk (Nat.le_of_eq hsk)
          replace bx := Hid.mk (bx.out.gr q1.out)
          replace S1 := Hid.mk (S1.out.grow q1.out)
          replace hR := Hid.mk (hR.out.gr q1.out)
          replace K1 := Hid.mk (K1.out.trans (Kt.gr q1.out))
          replace G := Hid.mk (G.out.trans q1.out)
          clear q1 hsk
          have c1 : V3.cell? ⟨kx, 1, none⟩ = some (.slice ka rr.code.length kc') := bx.out.2.1 1
          have pw : wrap64 ((rr.code.length : Int) + 8) = (rr.code.length : Int) + 8 := w8_of _ pfit
          have px : IntKind.i64.wrap ((rr.code.length : Int) + 8) = (rr.code.length : Int) + 8 := x8_of _ pfit
          have pl : (rr.code.length : Int) ≤ (rr.code.length : Int) + 8 := by omega
          obtain ⟨hmk, hcp, po, q1⟩ := made_copy (b := 40) (Z := instZ) (by omega) ins_len ins_one 3 Tryd.underlying50 (by kernel_rfl) (by kernel_rfl) rr.code ka kc' w.heap.size kx V3 (kg5.out.below S1.out.gr.below) S1.out.gr.below.size pfb pfit bx.out.1
          replace po := Hid.mk po
          have q9 := Hid.mk ((Gr.refl V3).alloc (.cells (rowV [] Ins.vals (List.replicate (rr.code.length + 8) instZ)).toArray 74))
          replace q1 := Hid.mk q1
          generalize World.setCells _ _ _ _ = V4 at *
          generalize V3.alloc _ = V9 at *
          go_upto_region 23 with fail
          clear hmk c1
          have c1 : V9.cell? ⟨kx, 1, none⟩ = some (.slice ka rr.code.length kc') := (bx.out.gr q9.out).2.1 1
          go_upto_region 24 with fail
          clear hcp c1 q9
          generalize hpk : V3.heap.size = pk at *
          replace hpk := Hid.mk (Nat.le_of_eq hpk)
          replace bx := Hid.mk (bx.out.gr q1.out)
          replace S1 := Hid.mk (S1.out.grow q1.out)
          replace hR := Hid.mk (hR.out.gr q1.out)
          replace K1 := Hid.mk (K1.out.trans (Kt.gr q1.out))
          replace G := Hid.mk (G.out.trans q1.out)
          replace so := Hid.mk (so.out.keep (Kt.gr q1.out))
          clear q1 hpk
          have e9 := D0.out.rest i (Nat.le_refl _) hlt
          obtain ⟨hil, e9'⟩ := List.getElem?_eq_some_iff.1 e9
          have c1 : V4.cell? ⟨kx, 0, none⟩ = some (.slice ra' rr.roots.length rc') := bx.out.2.1 0
          have e1 : V4.cell? ⟨kc, i * 2, none⟩ = some (.slice none 0 0) := elem_atL cp_len hR.out i _ e9 0 _ rfl
          have e2 : V4.frozen? ⟨kc, i * 2, none⟩ = false := hR.out.2.2 _
          go_upto_region 25 with fail
          clear e1 e2 c1
          have x9 := Hid.mk ((Kt.refl kx V4).set kc (i * 2) (.slice (some ⟨sk, 0, none⟩) rr.roots.length (rr.roots.length + 8)) (.inl (by omega)))
          replace so := Hid.mk (so.out.keep x9.out)
          replace po := Hid.mk (po.out.keep x9.out)
          replace bx := Hid.mk (bx.out.other (Nat.ne_of_gt hkx) (i * 2) [.slice (some ⟨sk, 0, none⟩) rr.roots.length (rr.roots.length + 8)])
          simp only [World.setCells] at bx
          replace S1 := Hid.mk (S1.out.set kc (i * 2) (.slice (some ⟨sk, 0, none⟩) rr.roots.length (rr.roots.length + 8)) kcl)
          replace hR := Hid.mk (At.setOne cp_len hR.out i (by simpa using hil) (⟨⟨some ⟨sk, 0, none⟩, rr.roots.length, rr.roots.length + 8⟩, nilS⟩ : CpV) 0 (.slice (some ⟨sk, 0, none⟩) rr.roots.length (rr.roots.length + 8)) (by omega) (by rw [e9']; rfl) (i * 2) (by omega))
          replace K1 := Hid.mk (K1.out.set kc (i * 2) (.slice (some ⟨sk, 0, none⟩) rr.roots.length (rr.roots.length + 8)) (.inl (Nat.le_refl _)))
          replace G := Hid.mk (G.out.setCell kc (i * 2) (.slice (some ⟨sk, 0, none⟩) rr.roots.length (rr.roots.length + 8)) hks.out)
          try rw [List.set_set] at hR
          clear x9
          generalize World.setCell _ _ _ = V5 at *
          have c1 : V5.cell? ⟨kx, 1, none⟩ = some (.slice ka rr.code.length kc') := bx.out.2.1 1
          have e1 : V5.cell? ⟨kc, i * 2 + 1, none⟩ = some (.slice none 0 0) := elem_atL cp_len hR.out i (⟨⟨some ⟨sk, 0, none⟩, rr.roots.length, rr.roots.length + 8⟩, nilS⟩ : CpV) (by simp [hil]) 1 _ rfl
          have e2 : V5.frozen? ⟨kc, i * 2 + 1, none⟩ = false := hR.out.2.2 _
          go_upto_region 26 with fail
          clear e1 e2 c1
          have x9 := Hid.mk ((Kt.refl kx V5).set kc (i * 2 + 1) (.slice (some ⟨pk, 0, none⟩) rr.code.length (rr.code.length + 8)) (.inl (by omega)))
          replace so := Hid.mk (so.out.keep x9.out)
          replace po := Hid.mk (po.out.keep x9.out)
          replace bx := Hid.mk (bx.out.other (Nat.ne_of_gt hkx) (i * 2 + 1) [.slice (some ⟨pk, 0, none⟩) rr.code.length (rr.code.length + 8)])
          simp only [World.setCells] at bx
          replace S1 := Hid.mk (S1.out.set kc (i * 2 + 1) (.slice (some ⟨pk, 0, none⟩) rr.code.length (rr.code.length + 8)) kcl)
          replace hR := Hid.mk (At.setOne cp_len hR.out i (by simpa using hil) (⟨⟨some ⟨sk, 0, none⟩, rr.roots.length, rr.roots.length + 8⟩, ⟨some ⟨pk, 0, none⟩, rr.code.length, rr.code.length + 8⟩⟩ : CpV) 1 (.slice (some ⟨pk, 0, none⟩) rr.code.length (rr.code.length + 8)) (by omega) (by simp; rfl) (i * 2 + 1) (by omega))
          replace K1 := Hid.mk (K1.out.set kc (i * 2 + 1) (.slice (some ⟨pk, 0, none⟩) rr.code.length (rr.code.length + 8)) (.inl (Nat.le_refl _)))
          replace G := Hid.mk (G.out.setCell kc (i * 2 + 1) (.slice (some ⟨pk, 0, none⟩) rr.code.length (rr.code.length + 8)) hks.out)
          try rw [List.set_set] at hR
          clear x9
          generalize World.setCell _ _ _ = V6 at *
          have D1 := Hid.mk ((D0.out.keep (cpL_keep K1.out) (fun _ h => h)).next hlt (⟨⟨some ⟨sk, 0, none⟩, rr.roots.length, rr.roots.length + 8⟩, ⟨some ⟨pk, 0, none⟩, rr.code.length, rr.code.length + 8⟩⟩ : CpV) (fun _ => by rw [hrg.out]; exact ⟨so.out.mono (Nat.le_of_lt hkx), po.out.mono (Nat.le_of_lt hkx)⟩) (fun h => by omega))
          clear K1 so po D0 hrg k0 k1 kf kg5 sfit pfit sfb pfb hfit hgx bx e9 e9'
          go_wp2_with fail
          exact ⟨⟨i + 1, _, by go_num, by omega, S1, hR, D1, G⟩, by simp [intOf]; omega⟩
        · have hin : ¬ (i : Int) < (m.comps.length : Int) := by omega
          have ei : i = m.comps.length := by omega
          subst ei
          have SC := Hid.mk (sep_c D0.out.over (by omega))
          have hrc : kr < kc := Nat.lt_of_lt_of_le AR.out.1 hks.out
          clear c0
          have DC := Hid.mk (Done.imp (ok' := CpOkL (w.heap.size + 1 + 1)) D0.out.over (fun a b h => ⟨h.1.mono (Nat.le_of_lt kcl), h.2.mono (Nat.le_of_lt kcl)⟩))
          have LC := Hid.mk D0.out.len
          have AC := hR
          generalize l = lc at *
          replace DR := Hid.mk (DR.out.keep (rgL_keep (Kt.gr G.out)) (fun _ h => h))
          replace AR := Hid.mk (AR.out.gr G.out)
          clear hR D0 G hks
          have c0 : wr.cell? ⟨w.heap.size, 1, none⟩ = some (.slice ca m.comps.length cc) := by rw [S1.out.m.2.1, ← hIM]; rfl
          have d1 : wr.cell? ⟨w.heap.size + 1 + 1, 1, none⟩ = some (.slice none 0 0) := S1.out.o.2.1 1
          have d2 : wr.frozen? ⟨w.heap.size + 1 + 1, 1, none⟩ = false := S1.out.o.2.2 1
          go_upto_region 27 with fail
          clear c0 d1 d2
          have K9 := Hid.mk ((Kt.refl (w.heap.size + 1 + 1) wr).set (w.heap.size + 1 + 1) 1 (.slice (some ⟨kc, 0, none⟩) m.comps.length (m.comps.length + 8)) (.inl (Nat.le_refl _)))
          have S0 : Hid (Ls w im [Value.slice (some ⟨kr, 0, none⟩) m.regs.length (m.regs.length + 8), .slice (some ⟨kc, 0, none⟩) m.comps.length (m.comps.length + 8), .slice none 0 0, .int .i64 m.depth] (wr.setCell ⟨w.heap.size + 1 + 1, 1, none⟩ (.slice (some ⟨kc, 0, none⟩) m.comps.length (m.comps.length + 8)))) := Hid.mk (S1.out.setO 1 (by simp) (.slice (some ⟨kc, 0, none⟩) m.comps.length (m.comps.length + 8)))
          clear S1
          replace DR := Hid.mk (DR.out.keep (rgL_keep K9.out) (fun _ h => h))
          replace DC := Hid.mk (DC.out.keep (cpL_keep K9.out) (fun _ h => h))
          replace AR := Hid.mk (AR.out.other (Nat.ne_of_gt krl) 1 [.slice (some ⟨kc, 0, none⟩) m.comps.length (m.comps.length + 8)])
          replace AC := Hid.mk (AC.out.other (Nat.ne_of_gt kcl) 1 [.slice (some ⟨kc, 0, none⟩) m.comps.length (m.comps.length + 8)])
          simp only [World.setCells] at AR AC
          clear K9
          replace SC := Hid.mk (sep_mono2 SC.out (Nat.le_of_eq (setCell_size wr ⟨w.heap.size + 1 + 1, 1, none⟩ (.slice (some ⟨kc, 0, none⟩) m.comps.length (m.comps.length + 8))).symm))
          generalize World.setCell _ _ _ = Wf at *
          have c0 : Wf.cell? ⟨w.heap.size, 2, none⟩ = some (.slice ga m.gates.length gc) := by rw [S0.out.m.2.1, ← hIM]; rfl
          have hmk := make_k (vals := GtV.vals) (Z := gtZ) (t := 24) (e := 55) (k := 4) (b := 64) (by omega) gt_len Tryd.underlying24 (by kernel_rfl) (m.gates.length + 8) (by omega) hF.out.g Wf
          rw [show ((m.gates.length + 8 : Nat) : Int) = (m.gates.length : Int) + 8 by omega] at hmk
          have hA := Hid.mk (At.new Wf (rowV [] GtV.vals (List.replicate (m.gates.length + 8) gtZ)).toArray 55)
          have hG := Hid.mk ((Gr.refl Wf).alloc (.cells (rowV [] GtV.vals (List.replicate (m.gates.length + 8) gtZ)).toArray 55))
          have kgl : w.heap.size + 1 + 1 < Wf.heap.size := S0.out.o.1
          generalize Wf.alloc _ = Wh at *
          replace S0 := Hid.mk (S0.out.grow hG.out)
          have hks := Hid.mk (Nat.le_refl Wf.heap.size)
          go_upto_region 29 with fail
          clear hmk c0
          generalize hk0 : Wf.heap.size = kg at *
          replace hks : Hid (Wf.heap.size ≤ kg) := Hid.mk (Nat.le_of_eq hk0)
          clear hk0
          go_loopw [14] (fun x wr => ∃ (i : Nat) (l : List GtV), x = .int .i64 i ∧ i ≤ m.gates.length ∧ Hid (Ls w im [Value.slice (some ⟨kr, 0, none⟩) m.regs.length (m.regs.length + 8), .slice (some ⟨kc, 0, none⟩) m.comps.length (m.comps.length + 8), .slice none 0 0, .int .i64 m.depth] wr) ∧ Hid (At wr kg (rowV [] GtV.vals l).toArray) ∧ Hid (Row3 (GtOkL kg) (isV gtZ) gtZ (m.gates.length + 8) wr m.gates l i) ∧ Hid (Gr Wf wr)) (fun x _ => m.gates.length - (intOf x).toNat)
          case atStart => exact ⟨0, _, rfl, by omega, S0, hA, Hid.mk (Row3.zero _ _ _ _ _ _), hG⟩
          case round =>
            clear S0 hA hG
            obtain ⟨i, l, rfl, hi, S1, hR, D0, G⟩ := hrel
            have c0 : wr.cell? ⟨w.heap.size, 2, none⟩ = some (.slice ga m.gates.length gc) := by rw [S1.out.m.2.1, ← hIM]; rfl
            by_cases hn : i < m.gates.length
            · have hlt : i < m.gates.length + 8 := by omega
              have hin : (i : Int) < (m.gates.length : Int) := by omega
              have hin8 : (i : Int) < (m.gates.length : Int) + 8 := by omega
              obtain ⟨rb, off, xa, xc, ya, yc, hga, hb1, _, k0, k1, k2, k3, kf, kl⟩ := hm.out.gates i hn
              subst hga
              have hfit := hF.out.gs _ (List.getElem_mem hn)
              generalize hrg : m.gates[i] = rr at k0 k1 k2 k3 kf kl hfit
              replace hrg := Hid.mk hrg
              replace k0 := Hid.mk k0
              replace k1 := Hid.mk k1
              replace k2 := Hid.mk k2
              replace k3 := Hid.mk k3
              replace kf := Hid.mk kf
              replace kl := Hid.mk kl
              have e9 := D0.out.rest i (Nat.le_refl _) hlt
              obtain ⟨hil, e9'⟩ := List.getElem?_eq_some_iff.1 e9
              clear e9'
              have rg := Hid.mk (range4L ((S1.out.gr.below.cell (p := ⟨rb, off + i * 4, none⟩) hb1).trans k0.out) ((S1.out.gr.below.cell (p := ⟨rb, off + i * 4 + 1, none⟩) hb1).trans k1.out) ((S1.out.gr.below.cell (p := ⟨rb, off + i * 4 + 1 + 1, none⟩) hb1).trans k2.out) ((S1.out.gr.below.cell (p := ⟨rb, off + i * 4 + 1 + 1 + 1, none⟩) hb1).trans k3.out))
              go_upto_region 31 with fail
              refine wp_region_lit ?_
              refine wpList_plain rfl (fun K hK => ?_)
              go_simp
              with_reducible refine hK _ _ ?_
              clear hK K
              try simp only [Act.put, List.setIfInBounds_toArray, List.set_cons_zero, List.set_cons_succ]
              refine wpList_plain rfl (fun K hK => ?_)
              go_simp
              with_reducible refine hK _ _ ?_
              clear hK K
              try simp only [Act.put, List.setIfInBounds_toArray, List.set_cons_zero, List.set_cons_succ]
              refine wpList_plain rfl (fun K hK => ?_)
              go_simp
              with_reducible refine hK _ _ ?_
              clear hK K
              try simp only [Act.put, List.setIfInBounds_toArray, List.set_cons_zero, List.set_cons_succ]
              refine wpList_plain rfl (fun K hK => ?_)
              go_simp
              with_reducible refine hK _ _ ?_
              clear hK K
              try simp only [Act.put, List.setIfInBounds_toArray, List.set_cons_zero, List.set_cons_succ]
              refine wpList_plain rfl (fun K hK => ?_)
              go_simp
              with_reducible refine hK _ _ ?_
              clear hK K
              try simp only [Act.put, List.setIfInBounds_toArray, List.set_cons_zero, List.set_cons_succ]
              refine wpList_plain rfl (fun K hK => ?_)
              go_simp
              with_reducible refine hK _ _ ?_
              clear hK K
              try simp only [Act.put, List.setIfInBounds_toArray, List.set_cons_zero, List.set_cons_succ]
              refine wpList_plain rfl (fun K hK => ?_)
              refine wp_load_mid _ _ rfl _ (off + i * 4) rfl [Value.int .i64 rr.c, .int .i64 rr.e, .slice xa rr.args.length xc, .slice ya rr.res.length yc] _ rg.out Tryd.underlying55 rfl (by kernel_rfl) (hK _ _ ?_)
              clear hK K
              try simp only [Act.put, List.setIfInBounds_toArray, List.set_cons_zero, List.set_cons_succ]
              refine wpList_plain rfl (fun K hK => ?_)
              go_simp
              with_reducible refine hK _ _ ?_
              clear hK K
              try simp only [Act.put, List.setIfInBounds_toArray, List.set_cons_zero, List.set_cons_succ]
              have hT := Hid.mk (hR.out.there (i * 4) 4 (by rw [row_len gt_len, D0.out.len]; simp; omega))
              have K1 := Hid.mk ((Kt.refl kg wr).sets kg (i * 4) (GtV.vals (⟨rr.c, rr.e, ⟨xa, rr.args.length, xc⟩, ⟨ya, rr.res.length, yc⟩⟩ : GtV)) (.inl (Nat.le_refl _)))
              replace S1 := Hid.mk (S1.out.sets kg (i * 4) (GtV.vals (⟨rr.c, rr.e, ⟨xa, rr.args.length, xc⟩, ⟨ya, rr.res.length, yc⟩⟩ : GtV)) kgl)
              replace hR := Hid.mk (hR.out.setElem gt_len i hil (⟨rr.c, rr.e, ⟨xa, rr.args.length, xc⟩, ⟨ya, rr.res.length, yc⟩⟩ : GtV) (i * 4) (by simp))
              replace G := Hid.mk (G.out.setCells kg hks.out (GtV.vals (⟨rr.c, rr.e, ⟨xa, rr.args.length, xc⟩, ⟨ya, rr.res.length, yc⟩⟩ : GtV)) (i * 4))
              refine wpList_plain rfl (fun K hK => ?_)
              refine wp_store_mid _ _ _ rfl _ _ (List.toArray (GtV.vals (⟨rr.c, rr.e, ⟨xa, rr.args.length, xc⟩, ⟨ya, rr.res.length, yc⟩⟩ : GtV))) rfl rfl hT.out (by kernel_rfl) (all_oneCell_toArray (gt_one _)) (hK _ _ ?_)
              clear hK K hT rg c0 e9
              try simp only [Act.put]
              generalize World.setCells _ _ _ _ = V1 at *
              have c0 : V1.cell? ⟨w.heap.size, 2, none⟩ = some (.slice (some ⟨rb, off, none⟩) m.gates.length gc) := by rw [S1.out.m.2.1, ← hIM]; rfl
              have d1 : V1.cell? ⟨rb, off + i * 4 + 1 + 1, none⟩ = some (.slice xa rr.args.length xc) := ((S1.out.gr.below.cell (p := ⟨rb, off + i * 4 + 1 + 1, none⟩) hb1).trans k2.out)
              have hcl := Hid.mk (types_any rr.args xa xc w.heap.size kg V1 (kf.out.below S1.out.gr.below) hfit.1 S1.out.gr.below.size hR.out.1)
              go_wp2_with fail
              refine hcl.out.mono ?_
              rintro x V2 ⟨s, rfl, so, q1⟩
              clear c0 d1 hcl
              replace so := Hid.mk so
              replace S1 := Hid.mk (S1.out.grow q1)
              replace hR := Hid.mk (hR.out.gr q1)
              replace K1 := Hid.mk (K1.out.trans (Kt.gr q1))
              replace G := Hid.mk (G.out.trans q1)
              clear q1
              go_upto_region 33 with fail
              have c0 : V2.cell? ⟨w.heap.size, 2, none⟩ = some (.slice (some ⟨rb, off, none⟩) m.gates.length gc) := by rw [S1.out.m.2.1, ← hIM]; rfl
              have d1 : V2.cell? ⟨rb, off + i * 4 + 1 + 1 + 1, none⟩ = some (.slice ya rr.res.length yc) := ((S1.out.gr.below.cell (p := ⟨rb, off + i * 4 + 1 + 1 + 1, none⟩) hb1).trans k3.out)
              have hcl := Hid.mk (types_any rr.res ya yc w.heap.size kg V2 (kl.out.below S1.out.gr.below) hfit.2 S1.out.gr.below.size hR.out.1)
              go_wp2_with fail
              refine hcl.out.mono ?_
              rintro x V3 ⟨t, rfl, tq, q1⟩
              clear c0 d1 hcl
              replace tq := Hid.mk tq
              replace S1 := Hid.mk (S1.out.grow q1)
              replace hR := Hid.mk (hR.out.gr q1)
              replace K1 := Hid.mk (K1.out.trans (Kt.gr q1))
              replace G := Hid.mk (G.out.trans q1)
              replace so := Hid.mk (so.out.keep (Kt.gr q1))
              clear q1
              go_upto_region 34 with fail
              have e1 : V3.cell? ⟨kg, i * 4 + 1 + 1, none⟩ = some (.slice xa rr.args.length xc) := elem_atL gt_len hR.out i (⟨rr.c, rr.e, ⟨xa, rr.args.length, xc⟩, ⟨ya, rr.res.length, yc⟩⟩ : GtV) (by simp [hil]) 2 _ rfl
              have e2 : V3.frozen? ⟨kg, i * 4 + 1 + 1, none⟩ = false := hR.out.2.2 _
              go_upto_region 35 with fail
              clear e1 e2
              have x9 := Hid.mk ((Kt.refl kg V3).set kg (i * 4 + 1 + 1) (.slice s.a s.l s.c) (.inl (by omega)))
              replace so := Hid.mk (so.out.keep x9.out)
              replace tq := Hid.mk (tq.out.keep x9.out)
              replace S1 := Hid.mk (S1.out.set kg (i * 4 + 1 + 1) (.slice s.a s.l s.c) kgl)
              replace hR := Hid.mk (At.setOne gt_len hR.out i (by simpa using hil) (⟨rr.c, rr.e, s, ⟨ya, rr.res.length, yc⟩⟩ : GtV) 2 (.slice s.a s.l s.c) (by omega) (by simp; rfl) (i * 4 + 1 + 1) (by omega))
              replace K1 := Hid.mk (K1.out.set kg (i * 4 + 1 + 1) (.slice s.a s.l s.c) (.inl (Nat.le_refl _)))
              replace G := Hid.mk (G.out.setCell kg (i * 4 + 1 + 1) (.slice s.a s.l s.c) hks.out)
              try rw [List.set_set] at hR
              clear x9
              generalize World.setCell _ _ _ = V4 at *
              have e1 : V4.cell? ⟨kg, i * 4 + 1 + 1 + 1, none⟩ = some (.slice ya rr.res.length yc) := elem_atL gt_len hR.out i (⟨rr.c, rr.e, s, ⟨ya, rr.res.length, yc⟩⟩ : GtV) (by simp [hil]) 3 _ rfl
              have e2 : V4.frozen? ⟨kg, i * 4 + 1 + 1 + 1, none⟩ = false := hR.out.2.2 _
              go_upto_region 36 with fail
              clear e1 e2
              have x9 := Hid.mk ((Kt.refl kg V4).set kg (i * 4 + 1 + 1 + 1) (.slice t.a t.l t.c) (.inl (by omega)))
              replace so := Hid.mk (so.out.keep x9.out)
              replace tq := Hid.mk (tq.out.keep x9.out)
              replace S1 := Hid.mk (S1.out.set kg (i * 4 + 1 + 1 + 1) (.slice t.a t.l t.c) kgl)
              replace hR := Hid.mk (At.setOne gt_len hR.out i (by simpa using hil) (⟨rr.c, rr.e, s, t⟩ : GtV) 3 (.slice t.a t.l t.c) (by omega) (by simp; rfl) (i * 4 + 1 + 1 + 1) (by omega))
              replace K1 := Hid.mk (K1.out.set kg (i * 4 + 1 + 1 + 1) (.slice t.a t.l t.c) (.inl (Nat.le_refl _)))
              replace G := Hid.mk (G.out.setCell kg (i * 4 + 1 + 1 + 1) (.slice t.a t.l t.c) hks.out)
              try rw [List.set_set] at hR
              clear x9
              generalize World.setCell _ _ _ = V5 at *
              have D1 := Hid.mk ((D0.out.keep (gtL_keep K1.out) (fun _ h => h)).next hlt (⟨rr.c, rr.e, s, t⟩ : GtV) (fun _ => by rw [hrg.out]; exact ⟨rfl, rfl, so.out, tq.out⟩) (fun h => by omega))
              clear K1 so tq D0 hrg k0 k1 k2 k3 kf kl hfit
              go_wp2_with fail
              exact ⟨⟨i + 1, _, by go_num, by omega, S1, hR, D1, G⟩, by simp [intOf]; omega⟩
            · have hin : ¬ (i : Int) < (m.gates.length : Int) := by omega
              have ei : i = m.gates.length := by omega
              subst ei
              have SG := Hid.mk (sep_g D0.out.over (by omega))
              have hcg : kc < kg := Nat.lt_of_lt_of_le AC.out.1 hks.out
              clear c0
              have DG := Hid.mk (Done.imp (ok' := GtOkL (w.heap.size + 1 + 1)) D0.out.over (fun a b h => ⟨h.1, h.2.1, h.2.2.1.mono (Nat.le_of_lt kgl), h.2.2.2.mono (Nat.le_of_lt kgl)⟩))
              have LG := Hid.mk D0.out.len
              have AG := hR
              generalize l = lg at *
              replace DR := Hid.mk (DR.out.keep (rgL_keep (Kt.gr G.out)) (fun _ h => h))
              replace DC := Hid.mk (DC.out.keep (cpL_keep (Kt.gr G.out)) (fun _ h => h))
              replace AR := Hid.mk (AR.out.gr G.out)
              replace AC := Hid.mk (AC.out.gr G.out)
              clear hR D0 G hks
              have c0 : wr.cell? ⟨w.heap.size, 2, none⟩ = some (.slice ga m.gates.length gc) := by rw [S1.out.m.2.1, ← hIM]; rfl
              have d1 : wr.cell? ⟨w.heap.size + 1 + 1, 2, none⟩ = some (.slice none 0 0) := S1.out.o.2.1 2
              have d2 : wr.frozen? ⟨w.heap.size + 1 + 1, 2, none⟩ = false := S1.out.o.2.2 2
              go_upto_region 37 with fail
              clear c0 d1 d2
              have K9 := Hid.mk ((Kt.refl (w.heap.size + 1 + 1) wr).set (w.heap.size + 1 + 1) 2 (.slice (some ⟨kg, 0, none⟩) m.gates.length (m.gates.length + 8)) (.inl (Nat.le_refl _)))
              have S0 : Hid (Ls w im [Value.slice (some ⟨kr, 0, none⟩) m.regs.length (m.regs.length + 8), .slice (some ⟨kc, 0, none⟩) m.comps.length (m.comps.length + 8), .slice (some ⟨kg, 0, none⟩) m.gates.length (m.gates.length + 8), .int .i64 m.depth] (wr.setCell ⟨w.heap.size + 1 + 1, 2, none⟩ (.slice (some ⟨kg, 0, none⟩) m.gates.length (m.gates.length + 8)))) := Hid.mk (S1.out.setO 2 (by simp) (.slice (some ⟨kg, 0, none⟩) m.gates.length (m.gates.length + 8)))
              clear S1
              replace DR := Hid.mk (DR.out.keep (rgL_keep K9.out) (fun _ h => h))
              replace DC := Hid.mk (DC.out.keep (cpL_keep K9.out) (fun _ h => h))
              replace DG := Hid.mk (DG.out.keep (gtL_keep K9.out) (fun _ h => h))
              replace AR := Hid.mk (AR.out.other (Nat.ne_of_gt krl) 2 [.slice (some ⟨kg, 0, none⟩) m.gates.length (m.gates.length + 8)])
              replace AC := Hid.mk (AC.out.other (Nat.ne_of_gt kcl) 2 [.slice (some ⟨kg, 0, none⟩) m.gates.length (m.gates.length + 8)])
              replace AG := Hid.mk (AG.out.other (Nat.ne_of_gt kgl) 2 [.slice (some ⟨kg, 0, none⟩) m.gates.length (m.gates.length + 8)])
              simp only [World.setCells] at AR AC AG
              clear K9
              generalize World.setCell _ _ _ = Wg at *
              refine wp_region_lit ?_
              refine wpList_plain rfl (fun K hK => ?_)
              refine wp_load_mid _ _ rfl _ 0 rfl [Value.slice (some ⟨kr, 0, none⟩) m.regs.length (m.regs.length + 8), .slice (some ⟨kc, 0, none⟩) m.comps.length (m.comps.length + 8), .slice (some ⟨kg, 0, none⟩) m.gates.length (m.gates.length + 8), .int .i64 m.depth] _ S0.out.o.range Tryd.underlying26 rfl (by kernel_rfl) (hK _ _ ?_)
              clear hK K
              try simp only [Act.put, List.setIfInBounds_toArray, List.set_cons_zero, List.set_cons_succ]
              have hT := Hid.mk (S0.out.res.there 0 4 (by simp))
              have K9 := Hid.mk ((Kt.refl (w.heap.size + 1 + 1) Wg).sets (w.heap.size + 1) 0 [Value.slice (some ⟨kr, 0, none⟩) m.regs.length (m.regs.length + 8), .slice (some ⟨kc, 0, none⟩) m.comps.length (m.comps.length + 8), .slice (some ⟨kg, 0, none⟩) m.gates.length (m.gates.length + 8), .int .i64 m.depth] (.inl (by omega)))
              have G9 := Hid.mk (S0.out.gr.setCells (w.heap.size + 1) (by omega) [Value.slice (some ⟨kr, 0, none⟩) m.regs.length (m.regs.length + 8), .slice (some ⟨kc, 0, none⟩) m.comps.length (m.comps.length + 8), .slice (some ⟨kg, 0, none⟩) m.gates.length (m.gates.length + 8), .int .i64 m.depth] 0)
              have S9 := Hid.mk (S0.out.res.setAll [Value.slice (some ⟨kr, 0, none⟩) m.regs.length (m.regs.length + 8), .slice (some ⟨kc, 0, none⟩) m.comps.length (m.comps.length + 8), .slice (some ⟨kg, 0, none⟩) m.gates.length (m.gates.length + 8), .int .i64 m.depth] rfl).range
              have TI9 : Hid (LeIn (w.heap.size + 1 + 1) kr kc kg (World.setCells Wg (w.heap.size + 1) 0 [Value.slice (some ⟨kr, 0, none⟩) m.regs.length (m.regs.length + 8), .slice (some ⟨kc, 0, none⟩) m.comps.length (m.comps.length + 8), .slice (some ⟨kg, 0, none⟩) m.gates.length (m.gates.length + 8), .int .i64 m.depth]) m lr lc lg) := Hid.mk ⟨AR.out.other (by omega) _ _, AC.out.other (by omega) _ _, AG.out.other (by omega) _ _, LR.out, LC.out, LG.out, DR.out.keep (rgL_keep K9.out) (fun _ h => h), DC.out.keep (cpL_keep K9.out) (fun _ h => h), DG.out.keep (gtL_keep K9.out) (fun _ h => h)⟩
              refine wpList_plain rfl (fun K hK => ?_)
              refine wp_store_mid _ _ _ rfl _ _ (List.toArray [Value.slice (some ⟨kr, 0, none⟩) m.regs.length (m.regs.length + 8), .slice (some ⟨kc, 0, none⟩) m.comps.length (m.comps.length + 8), .slice (some ⟨kg, 0, none⟩) m.gates.length (m.gates.length + 8), .int .i64 m.depth]) rfl rfl hT.out (by kernel_rfl) (all_oneCell_toArray (by intro v hv; simp at hv; rcases hv with rfl | rfl | rfl | rfl <;> rfl)) (hK _ _ ?_)
              clear hK K hT S0 DR DC DG LR LC LG AR AC AG K9
              try simp only [Act.put]
              generalize World.setCells _ _ _ _ = Wz at *
              have hrun := Hid.mk (run_loadVar_mid (P := Tryd.prog) Wz (w.heap.size + 1) 0 26 [Value.slice (some ⟨kr, 0, none⟩) m.regs.length (m.regs.length + 8), .slice (some ⟨kc, 0, none⟩) m.comps.length (m.comps.length + 8), .slice (some ⟨kg, 0, none⟩) m.gates.length (m.gates.length + 8), .int .i64 m.depth] _ S9.out Tryd.underlying26 rfl (by kernel_rfl))
              clear S9
              go_wp2_with fail
              refine bodyPost_ret (v := .agg (List.toArray [Value.slice (some ⟨kr, 0, none⟩) m.regs.length (m.regs.length + 8), .slice (some ⟨kc, 0, none⟩) m.comps.length (m.comps.length + 8), .slice (some ⟨kg, 0, none⟩) m.gates.length (m.gates.length + 8), .int .i64 m.depth])) ?_ rfl ⟨(w.heap.size + 1 + 1), kr, kc, kg, rfl, G9.out, lr, lc, lg, TI9.out, _, ⟨krl, hrc, hcg, SR.out, SC.out, SG.out⟩⟩
              exact results_rowL Tryd.results5 _ _ rfl hrun.out
end Q
end Go.Proofs.YtcljibdikhpnlaaDoor
