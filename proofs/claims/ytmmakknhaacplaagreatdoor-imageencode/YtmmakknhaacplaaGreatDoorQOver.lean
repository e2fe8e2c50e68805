import Derived.Test.YtmmakknhaacplaaGreatDoorQLentS
import Derived.BigFrame
/-
  Programs that are lent: over: their owner writes over them; nothing else is written.
-/
namespace Go.Proofs.YtmmakknhaacplaaGreatDoor
namespace Q
open Go.RowKit

theorem below_gr {w W : World} {B : Nat} (g : Gr w W) (hB : B ≤ w.heap.size) : Below B w W := ⟨g.below.os, g.below.tape, g.below.output, g.below.size, fun k hk => g.below.block k (by omega)⟩
theorem below_sets {w W : World} {B : Nat} (h : Below B w W) (b : Nat) (hb : B ≤ b) : ∀ (vs : List Value) (o : Nat), Below B w (W.setCells b o vs) := fun vs => by
  induction vs generalizing W with
  | nil => exact fun _ => h
  | cons v r ih => exact fun o => ih (h.setCell (p := ⟨b, o, none⟩) hb v) (o + 1)
/-- Only blocks of 'S' have been written since 'W0'. -/
structure Ov (B : Nat) (w0 W0 : World) (S : Nat → Prop) (W : World) : Prop where
  gr : Below B w0 W
  keep : ∀ b, ¬ S b → W.heap[b]? = W0.heap[b]?
  there : ∀ b o n, W0.there b o n → W.there b o n
theorem Ov.refl {B : Nat} {w0 W0 : World} {S : Nat → Prop} (h : Below B w0 W0) : Ov B w0 W0 S W0 := ⟨h, fun _ _ => rfl, fun _ _ _ h => h⟩
theorem Ov.sets {B : Nat} {w0 W0 : World} {S : Nat → Prop} {W : World} (h : Ov B w0 W0 S W) (b o : Nat) (vs : List Value) (hS : S b) (hb : B ≤ b) : Ov B w0 W0 S (W.setCells b o vs) :=
  ⟨below_sets h.gr b hb vs o, fun c hc => by rw [setCells_block b c (fun e => hc (e ▸ hS))]; exact h.keep c hc, fun c p n q => World.there_setCells (h.there c p n q) b o vs⟩
theorem Ov.at_ {B : Nat} {w0 W0 : World} {S : Nat → Prop} {W : World} (h : Ov B w0 W0 S W) {k : Nat} {cs : Array Value} (hA : At W0 k cs) (hk : ¬ S k) : At W k cs := by
  have e := h.keep k hk
  refine ⟨?_, fun i => by rw [World.cell?_of_block (a := ⟨k, i, none⟩) e]; exact hA.2.1 i, fun i => by rw [World.frozen?_of_block (a := ⟨k, i, none⟩) e]; exact hA.2.2 i⟩
  have h1 : k < W0.heap.size := hA.1
  rw [Array.getElem?_eq_getElem h1] at e
  exact (Array.getElem?_eq_some_iff.1 e).1
theorem there_one {W : World} {g n o : Nat} (h : W.there g 0 n) (ho : o < n) : ∃ y, W.cell? ⟨g, o, none⟩ = some y ∧ W.frozen? ⟨g, o, none⟩ = false := by
  have q := h o ho
  rw [Nat.zero_add] at q
  obtain ⟨y, hy⟩ := Option.isSome_iff_exists.1 q.1
  exact ⟨y, hy, q.2⟩
theorem there_mid {W : World} {g n o k : Nat} (h : W.there g 0 n) (ho : o + k ≤ n) : W.there g o k := fun j hj => by
  have q := h (o + j) (by omega)
  rw [Nat.zero_add] at q
  exact q
theorem el_lt {k n s : Nat} (h : k < n) (j : Nat) (hj : j < s) : k * s + j < n * s := by
  have : (k + 1) * s ≤ n * s := Nat.mul_le_mul_right s h
  rw [Nat.succ_mul] at this
  omega
theorem el_le {k n s : Nat} (h : k < n) : k * s + s ≤ n * s := by
  have : (k + 1) * s ≤ n * s := Nat.mul_le_mul_right s h
  rw [Nat.succ_mul] at this
  exact this
theorem next_wO {k n : Nat} (h : k < n) (hn : n ≤ 281474976710648) : wrap64 ((k : Int) + 1) = ((k + 1 : Nat) : Int) := by unfold wrap64; omega
theorem next_mO {k n : Nat} (h : k < n) : n - (intOf (.int .i64 ((k + 1 : Nat) : Int))).toNat < n - (intOf (.int .i64 (k : Int))).toNat := by simp [intOf]; omega
set_option maxRecDepth 100000 in
set_option maxHeartbeats 2000000 in
theorem markT_any (B : Nat) (w0 W0 w : World) (S : Nat → Prop) (g n cap : Nat) (h : Ov B w0 W0 S w) (hS : S g) (hg : B ≤ g) (ht : W0.there g 0 (n * 8)) (hn : n ≤ 281474976710648) : Calls Tryz.prog 15 #[.slice (some ⟨g, 0, none⟩) n cap] w fun x w' => x = .returned (.tuple #[]) ∧ Ov B w0 W0 S w' ∧ ∀ b, b ≠ g → w'.heap[b]? = w.heap[b]? := by
  replace h := Hid.mk h
  replace ht := Hid.mk ht
  replace hS := Hid.mk hS
  go_enter Tryz.func15, Tryz.ntmps15
  go_upto_region 1 with fail
  go_loopw [2] (fun x wr => ∃ i : Nat, x = .int .i64 i ∧ i ≤ n ∧ Hid (Ov B w0 W0 S wr ∧ ∀ b, b ≠ g → wr.heap[b]? = w.heap[b]?)) (fun x _ => n - (intOf x).toNat)
  case atStart => exact ⟨0, rfl, Nat.zero_le _, Hid.mk ⟨h.out, fun _ _ => rfl⟩⟩
  case round =>
    clear h
    obtain ⟨i, rfl, hi, hI⟩ := hrel
    by_cases hlt : i < n
    · have hi1 : (i : Int) < (n : Int) := Int.ofNat_lt.2 hlt
      obtain ⟨y, c1, f1⟩ := there_one (hI.out.1.there _ _ _ ht.out) (el_lt hlt 7 (by decide))
      have hN := Hid.mk (And.intro (hI.out.1.sets g (i * 8 + 7) [.int .u64 77] hS.out hg) (fun b (hb : b ≠ g) => (setCells_block g b (Ne.symm hb) [.int .u64 77] (i * 8 + 7) wr).trans (hI.out.2 b hb)))
      simp only [World.setCells] at hN
      clear hI
      go_wp2_with fail
      refine ⟨⟨i + 1, ?_, hlt, hN⟩, ?_⟩
      · first | rfl | rw [next_wO hlt hn] | go_num
      · first | exact next_mO hlt | (rw [next_wO hlt hn]; exact next_mO hlt)
    · have hi1 : ¬ (i : Int) < (n : Int) := fun q => hlt (Int.ofNat_lt.1 q)
      go_wp2_with fail
      simp [bodyPost, results, Tryz.results15, go_sem]
      exact hI.out
theorem list_there {α : Type} {vals : α → List Value} {M : α} {k kk : Nat} {W : World} {L : List α} {s : Sl} (hv : ∀ x, (vals x).length = k) (h : LsOk vals M kk W L s) {g : Nat} (hg : s.a = some ⟨g, 0, none⟩) : s = ⟨some ⟨g, 0, none⟩, L.length, L.length + 8⟩ ∧ W.there g 0 (L.length * k) := by
  obtain ⟨g', rfl, _, hA⟩ := h
  cases hg
  refine ⟨rfl, At.there hA 0 _ ?_⟩
  rw [row_len (pre := []) hv]
  unfold marked
  rw [List.length_append, List.length_replicate, Nat.add_mul]
  simp
theorem rlist {kk kr kc kg lo hi : Nat} {W : World} {m : PImg} {lr : List RgV} {lc : List CpV} {lg : List GtV} (h : LeIn kk kr kc kg W m lr lc lg) (hS : LeSep lo kr kc kg hi m lr lc lg) (i : Nat) (hi' : i < m.regs.length) : ∃ v g, lr[i]? = some v ∧ v.s = ⟨some ⟨g, 0, none⟩, m.regs[i].slots.length, m.regs[i].slots.length + 8⟩ ∧ kr < g ∧ g < kc ∧ W.there g 0 (m.regs[i].slots.length * 8) := by
  obtain ⟨v, hv, _, _, _, hok⟩ := (h.rd i (by omega)).1 hi'
  obtain ⟨g, e, h1, h2⟩ := hS.r i hi' v hv
  obtain ⟨q1, q2⟩ := list_there slt_len hok e
  exact ⟨v, g, hv, q1, h1, h2, q2⟩
theorem clist {kk kr kc kg lo hi : Nat} {W : World} {m : PImg} {lr : List RgV} {lc : List CpV} {lg : List GtV} (h : LeIn kk kr kc kg W m lr lc lg) (hS : LeSep lo kr kc kg hi m lr lc lg) (i : Nat) (hi' : i < m.comps.length) : ∃ v g g', lc[i]? = some v ∧ v.r = ⟨some ⟨g, 0, none⟩, m.comps[i].roots.length, m.comps[i].roots.length + 8⟩ ∧ kc < g ∧ g < kg ∧ W.there g 0 (m.comps[i].roots.length * 6) ∧ v.k = ⟨some ⟨g', 0, none⟩, m.comps[i].code.length, m.comps[i].code.length + 8⟩ ∧ kc < g' ∧ g' < kg ∧ W.there g' 0 (m.comps[i].code.length * 5) := by
  obtain ⟨v, hv, hok⟩ := (h.cd i (by omega)).1 hi'
  obtain ⟨g, e, h1, h2⟩ := hS.cs.1 i hi' v hv
  obtain ⟨g', e', h1', h2'⟩ := hS.cs.2 i hi' v hv
  obtain ⟨q1, q2⟩ := list_there rot_len hok.1 e
  obtain ⟨q1', q2'⟩ := list_there ins_len hok.2 e'
  exact ⟨v, g, g', hv, q1, h1, h2, q2, q1', h1', h2', q2'⟩
theorem glist {kk kr kc kg lo hi : Nat} {W : World} {m : PImg} {lr : List RgV} {lc : List CpV} {lg : List GtV} (h : LeIn kk kr kc kg W m lr lc lg) (hS : LeSep lo kr kc kg hi m lr lc lg) (i : Nat) (hi' : i < m.gates.length) : ∃ v g g', lg[i]? = some v ∧ v.x = ⟨some ⟨g, 0, none⟩, m.gates[i].args.length, m.gates[i].args.length + 8⟩ ∧ kg < g ∧ W.there g 0 (m.gates[i].args.length * 7) ∧ v.y = ⟨some ⟨g', 0, none⟩, m.gates[i].res.length, m.gates[i].res.length + 8⟩ ∧ kg < g' ∧ W.there g' 0 (m.gates[i].res.length * 7) := by
  obtain ⟨v, hv, _, _, hx, hy⟩ := (h.gd i (by omega)).1 hi'
  obtain ⟨g, e, h1, h2⟩ := hS.g.1 i hi' v hv
  obtain ⟨g', e', h1', h2'⟩ := hS.g.2 i hi' v hv
  obtain ⟨q1, q2⟩ := list_there typ_len hx e
  obtain ⟨q1', q2'⟩ := list_there typ_len hy e'
  exact ⟨v, g, g', hv, q1, h1, q2, q1', h1', q2'⟩
theorem glt {kk kr kc kg : Nat} {W : World} {m : PImg} {lr : List RgV} {lc : List CpV} {lg : List GtV} (h : LeIn kk kr kc kg W m lr lc lg) (i : Nat) (hi' : i < m.gates.length) (v : GtV) (hv : lg[i]? = some v) : (∀ g, v.x.a = some ⟨g, 0, none⟩ → g < W.heap.size) ∧ ∀ g, v.y.a = some ⟨g, 0, none⟩ → g < W.heap.size := by
  obtain ⟨v', hv', _, _, hx, hy⟩ := (h.gd i (by omega)).1 hi'
  rw [hv] at hv'
  cases hv'
  obtain ⟨p, e1, _, A1⟩ := hx
  obtain ⟨q, e2, _, A2⟩ := hy
  refine ⟨fun g e => ?_, fun g e => ?_⟩
  · rw [e1] at e; cases e; exact A1.1
  · rw [e2] at e; cases e; exact A2.1
theorem At.same {W W' : World} {k : Nat} {cs : Array Value} (h : At W k cs) (e : W'.heap[k]? = W.heap[k]?) : At W' k cs := by
  refine ⟨?_, fun i => by rw [World.cell?_of_block (a := ⟨k, i, none⟩) e]; exact h.2.1 i, fun i => by rw [World.frozen?_of_block (a := ⟨k, i, none⟩) e]; exact h.2.2 i⟩
  rw [Array.getElem?_eq_getElem h.1] at e
  exact (Array.getElem?_eq_some_iff.1 e).1
/-- A row whose first ones are written over. -/
structure Rst {β : Type} (vals : β → List Value) (W : World) (k : Nat) (lr l : List β) (i : Nat) : Prop where
  at_ : At W k (rowV [] vals l).toArray
  len : l.length = lr.length
  rest : ∀ j, i ≤ j → l[j]? = lr[j]?
theorem Rst.next {β : Type} {vals : β → List Value} {W : World} {k s : Nat} {lr l : List β} {i : Nat} (hv : ∀ x, (vals x).length = s) (h : Rst vals W k lr l i) (hi : i < lr.length) (v : β) : Rst vals (W.setCells k (i * s) (vals v)) k lr (l.set i v) (i + 1) :=
  ⟨h.at_.setElem hv i (by rw [h.len]; exact hi) v (i * s) (by simp), by rw [List.length_set]; exact h.len, fun j hj => by rw [List.getElem?_set_ne (by omega)]; exact h.rest j (by omega)⟩
theorem Rst.same {β : Type} {vals : β → List Value} {W W' : World} {k : Nat} {lr l : List β} {i : Nat} (h : Rst vals W k lr l i) (e : W'.heap[k]? = W.heap[k]?) : Rst vals W' k lr l i := ⟨At.same h.at_ e, h.len, h.rest⟩
theorem Rst.cell {β : Type} {vals : β → List Value} {W : World} {k s : Nat} {lr l : List β} {i : Nat} (hv : ∀ x, (vals x).length = s) (h : Rst vals W k lr l i) {v : β} (e : lr[i]? = some v) : W.rangeAt k (i * s) (vals v) := elem_atL hv h.at_ i v ((h.rest i (Nat.le_refl _)).trans e)
set_option maxRecDepth 100000 in
set_option maxHeartbeats 16000000 in
theorem over_any (m : PImg) (kk kr kc kg lo hi : Nat) (lr : List RgV) (lc : List CpV) (lg : List GtV) (B : Nat) (w0 w : World) (hI0 : LeIn kk kr kc kg w m lr lc lg) (hS : LeSep lo kr kc kg hi m lr lc lg) (hG : Below B w0 w) (h0 : B ≤ lo) (hF : TwFit m) : Calls Tryz.prog 10 #[.agg #[.slice (some ⟨kr, 0, none⟩) m.regs.length (m.regs.length + 8), .slice (some ⟨kc, 0, none⟩) m.comps.length (m.comps.length + 8), .slice (some ⟨kg, 0, none⟩) m.gates.length (m.gates.length + 8), .int .i64 m.depth]] w fun x w' => x = .returned (.tuple #[]) ∧ Below B w0 w' := by
  have l1 : m.regs.length ≤ 281474976710648 := by have := hF.r; omega
  have l2 : m.comps.length ≤ 281474976710648 := by have := hF.c; omega
  have l3 : m.gates.length ≤ 281474976710648 := by have := hF.g; omega
  have a1 := hS.a
  have a2 := hS.b
  have a3 := hS.c
  have b1 := hI0.g.1
  replace hF := Hid.mk hF
  replace hS := Hid.mk hS
  replace hI0 := Hid.mk hI0
  replace hG := Hid.mk hG
  go_enter Tryz.func10, Tryz.ntmps10
  go_upto_region 1 with fail
  refine wp_world (fun W => At W w.heap.size #[.slice (some ⟨kr, 0, none⟩) m.regs.length (m.regs.length + 8), .slice (some ⟨kc, 0, none⟩) m.comps.length (m.comps.length + 8), .slice (some ⟨kg, 0, none⟩) m.gates.length (m.gates.length + 8), .int .i64 m.depth] ∧ Gr w W) ⟨At.new w _ _, (Gr.refl w).alloc _⟩ ?_
  rintro W0 ⟨BM, G0⟩
  replace BM := Hid.mk BM
  have hI := Hid.mk (hI0.out.gr G0)
  have V0 : Hid (Ov B w0 W0 (fun b => kr ≤ b ∧ b < kc) W0) := Hid.mk (Ov.refl (hG.out.trans (below_gr G0 (by omega))))
  clear G0 hG
  go_upto_region 2 with fail
  have R0 : Hid (Rst RgV.vals W0 kr lr lr 0) := Hid.mk ⟨hI.out.r, rfl, fun _ _ => rfl⟩
  go_loopw [2] (fun x wr => ∃ (i : Nat) (l : List RgV), x = .int .i64 i ∧ i ≤ m.regs.length ∧ Hid (Ov B w0 W0 (fun b => kr ≤ b ∧ b < kc) wr) ∧ Hid (Rst RgV.vals wr kr lr l i)) (fun x _ => m.regs.length - (intOf x).toNat)
  case atStart => exact ⟨0, lr, rfl, Nat.zero_le _, V0, R0⟩
  case round =>
    obtain ⟨i, l, rfl, hi', VV, RR⟩ := hrel
    have m0 : wr.cell? ⟨w.heap.size, 0, none⟩ = some (.slice (some ⟨kr, 0, none⟩) m.regs.length (m.regs.length + 8)) := (VV.out.at_ BM.out (by omega)).2.1 0
    by_cases hn : i < m.regs.length
    · have hi1 : (i : Int) < (m.regs.length : Int) := Int.ofNat_lt.2 hn
      obtain ⟨v, g1, hv, e1, g2, g3, ht⟩ := rlist hI.out hS.out i hn
      have hlr : i < lr.length := (List.getElem?_eq_some_iff.1 hv).1
      have hfit : m.regs[i].slots.length ≤ 281474976710648 := by have := hF.out.rs _ (List.getElem_mem hn); omega
      obtain ⟨vb, vn, vd, vs⟩ := v
      dsimp only at e1
      subst e1
      generalize m.regs[i].slots.length = n at *
      have e3 : wr.cell? ⟨kr, i * 4 + 1 + 1 + 1, none⟩ = some (.slice (some ⟨g1, 0, none⟩) n (n + 8)) := RR.out.cell rg_len hv 3 _ rfl
      have hcl := Hid.mk (markT_any B w0 W0 wr _ g1 n (n + 8) VV.out ⟨Nat.le_of_lt g2, g3⟩ (by omega) ht hfit)
      go_wp2_with fail
      refine hcl.out.mono ?_
      rintro x V1 ⟨rfl, q1, q2⟩
      clear m0 e3 hcl
      replace VV := Hid.mk q1
      replace RR := Hid.mk (RR.out.same (q2 kr (by omega)))
      clear q1 q2
      have m0 : V1.cell? ⟨w.heap.size, 0, none⟩ = some (.slice (some ⟨kr, 0, none⟩) m.regs.length (m.regs.length + 8)) := (VV.out.at_ BM.out (by omega)).2.1 0
      have hin8 : (i : Int) < (m.regs.length : Int) := hi1
      go_upto_region 5 with fail
      refine wp_region_lit ?_
      refine wpList_plain rfl (fun K hK => ?_)
      go_simp
      with_reducible refine hK _ _ ?_
      clear hK K
      try simp only [Act.put, List.setIfInBounds_toArray, List.set_cons_zero, List.set_cons_succ]
      refine wpList_plain rfl (fun K hK => ?_)
      go_simp
      with_reducible refine hK _ _ ?_
      clear hK K
      try simp only [Act.put, List.setIfInBounds_toArray, List.set_cons_zero, List.set_cons_succ]
      refine wpList_plain rfl (fun K hK => ?_)
      go_simp
      with_reducible refine hK _ _ ?_
      clear hK K
      try simp only [Act.put, List.setIfInBounds_toArray, List.set_cons_zero, List.set_cons_succ]
      refine wpList_plain rfl (fun K hK => ?_)
      go_simp
      with_reducible refine hK _ _ ?_
      clear hK K
      try simp only [Act.put, List.setIfInBounds_toArray, List.set_cons_zero, List.set_cons_succ]
      refine wpList_plain rfl (fun K hK => ?_)
      go_simp
      with_reducible refine hK _ _ ?_
      clear hK K
      try simp only [Act.put, List.setIfInBounds_toArray, List.set_cons_zero, List.set_cons_succ]
      have hT := Hid.mk (RR.out.at_.there (i * 4) 4 (by rw [row_len (pre := []) rg_len, RR.out.len]; simp; exact el_le hlr))
      replace VV := Hid.mk (VV.out.sets kr (i * 4) (RgV.vals (⟨5, 0, [], nilS⟩ : RgV)) (by omega) (by omega))
      replace RR := Hid.mk (RR.out.next rg_len hlr (⟨5, 0, [], nilS⟩ : RgV))
      refine wpList_plain rfl (fun K hK => ?_)
      refine wp_store_mid _ _ _ rfl _ _ (List.toArray (RgV.vals (⟨5, 0, [], nilS⟩ : RgV))) rfl rfl hT.out (by kernel_rfl) (all_oneCell_toArray (rg_one _)) (hK _ _ ?_)
      clear hK K hT
      try simp only [Act.put]
      generalize World.setCells _ _ _ _ = V9 at *
      clear m0
      go_wp2_with fail
      refine ⟨⟨i + 1, _, ?_, hn, VV, RR⟩, ?_⟩
      · first | rfl | rw [next_wO hn l1] | go_num
      · first | exact next_mO hn | (rw [next_wO hn l1]; exact next_mO hn)
    · have hi1 : ¬ (i : Int) < (m.regs.length : Int) := fun q => hn (Int.ofNat_lt.1 q)
      have ei : i = m.regs.length := Nat.le_antisymm hi' (Nat.le_of_not_lt hn)
      subst ei
      go_upto_region 7 with fail
      clear m0
      have A2 := Hid.mk (VV.out.at_ hI.out.c (by omega))
      have A3 := Hid.mk (VV.out.at_ hI.out.g (by omega))
      have P1 := Hid.mk VV.out.there
      have BM1 := Hid.mk (VV.out.at_ BM.out (by omega))
      clear BM
      have BM := BM1
      clear BM1
      have V1 : Hid (Ov B w0 wr (fun b => kc ≤ b ∧ b < kg) wr) := Hid.mk (Ov.refl VV.out.gr)
      clear VV RR V0 R0
      generalize wr = Wc at *
      have R1 : Hid (Rst CpV.vals Wc kc lc lc 0) := Hid.mk ⟨A2.out, rfl, fun _ _ => rfl⟩
      clear A2
      go_loopw [3] (fun x wr => ∃ (i : Nat) (l : List CpV), x = .int .i64 i ∧ i ≤ m.comps.length ∧ Hid (Ov B w0 Wc (fun b => kc ≤ b ∧ b < kg) wr) ∧ Hid (Rst CpV.vals wr kc lc l i)) (fun x _ => m.comps.length - (intOf x).toNat)
      case atStart => exact ⟨0, lc, rfl, Nat.zero_le _, V1, R1⟩
      case round =>
        obtain ⟨i, l, rfl, hi', VV, RR⟩ := hrel
        have m1 : wr.cell? ⟨w.heap.size, 1, none⟩ = some (.slice (some ⟨kc, 0, none⟩) m.comps.length (m.comps.length + 8)) := (VV.out.at_ BM.out (by omega)).2.1 1
        by_cases hn : i < m.comps.length
        · have hi1 : (i : Int) < (m.comps.length : Int) := Int.ofNat_lt.2 hn
          obtain ⟨v, g1, g4, hv, e1, g2, g3, ht, e2, g5, g6, ht2⟩ := clist hI.out hS.out i hn
          have hlr : i < lc.length := (List.getElem?_eq_some_iff.1 hv).1
          have hfit := hF.out.cs _ (List.getElem_mem hn)
          have hf1 : m.comps[i].roots.length ≤ 281474976710648 := by omega
          have hf2 : m.comps[i].code.length ≤ 281474976710648 := by omega
          clear hfit
          obtain ⟨vr, vk⟩ := v
          dsimp only at e1 e2
          subst e1 e2
          generalize m.comps[i].roots.length = n at *
          generalize m.comps[i].code.length = n' at *
          replace ht := Hid.mk (P1.out _ _ _ ht)
          replace ht2 := Hid.mk (P1.out _ _ _ ht2)
          go_upto_region 10 with fail
          clear m1
          have VV0 := VV
          have RR0 := RR
          clear VV RR
          go_loopw [4] (fun x wr => ∃ k : Nat, x = .int .i64 k ∧ k ≤ n' ∧ Hid (Ov B w0 Wc (fun b => kc ≤ b ∧ b < kg) wr) ∧ Hid (Rst CpV.vals wr kc lc l i)) (fun x _ => n' - (intOf x).toNat)
          case atStart => exact ⟨0, rfl, Nat.zero_le _, VV0, RR0⟩
          case round =>
            clear VV0 RR0
            obtain ⟨k, rfl, hk', VV, RR⟩ := hrel
            have m1 : wr.cell? ⟨w.heap.size, 1, none⟩ = some (.slice (some ⟨kc, 0, none⟩) m.comps.length (m.comps.length + 8)) := (VV.out.at_ BM.out (by omega)).2.1 1
            have e3 : wr.cell? ⟨kc, i * 2 + 1, none⟩ = some (.slice (some ⟨g4, 0, none⟩) n' (n' + 8)) := RR.out.cell cp_len hv 1 _ rfl
            by_cases hk : k < n'
            · have hk1 : (k : Int) < (n' : Int) := Int.ofNat_lt.2 hk
              have hT := Hid.mk (there_mid (k := 5) (VV.out.there _ _ _ ht2.out) (el_le hk))
              go_upto_region 12 with fail
              refine wp_region_lit ?_
              refine wpList_plain rfl (fun K hK => ?_)
              go_simp
              with_reducible refine hK _ _ ?_
              clear hK K
              try simp only [Act.put, List.setIfInBounds_toArray, List.set_cons_zero, List.set_cons_succ]
              refine wpList_plain rfl (fun K hK => ?_)
              go_simp
              with_reducible refine hK _ _ ?_
              clear hK K
              try simp only [Act.put, List.setIfInBounds_toArray, List.set_cons_zero, List.set_cons_succ]
              refine wpList_plain rfl (fun K hK => ?_)
              go_simp
              with_reducible refine hK _ _ ?_
              clear hK K
              try simp only [Act.put, List.setIfInBounds_toArray, List.set_cons_zero, List.set_cons_succ]
              refine wpList_plain rfl (fun K hK => ?_)
              go_simp
              with_reducible refine hK _ _ ?_
              clear hK K
              try simp only [Act.put, List.setIfInBounds_toArray, List.set_cons_zero, List.set_cons_succ]
              refine wpList_plain rfl (fun K hK => ?_)
              go_simp
              with_reducible refine hK _ _ ?_
              clear hK K
              try simp only [Act.put, List.setIfInBounds_toArray, List.set_cons_zero, List.set_cons_succ]
              refine wpList_plain rfl (fun K hK => ?_)
              go_simp
              with_reducible refine hK _ _ ?_
              clear hK K
              try simp only [Act.put, List.setIfInBounds_toArray, List.set_cons_zero, List.set_cons_succ]
              refine wpList_plain rfl (fun K hK => ?_)
              go_simp
              with_reducible refine hK _ _ ?_
              clear hK K
              try simp only [Act.put, List.setIfInBounds_toArray, List.set_cons_zero, List.set_cons_succ]
              refine wpList_plain rfl (fun K hK => ?_)
              go_simp
              with_reducible refine hK _ _ ?_
              clear hK K
              try simp only [Act.put, List.setIfInBounds_toArray, List.set_cons_zero, List.set_cons_succ]
              refine wpList_plain rfl (fun K hK => ?_)
              go_simp
              with_reducible refine hK _ _ ?_
              clear hK K
              try simp only [Act.put, List.setIfInBounds_toArray, List.set_cons_zero, List.set_cons_succ]
              replace VV := Hid.mk (VV.out.sets g4 (k * 5) (Ins.vals ({ op := 99, a := 0, b := 0, c := 0, m := 0 } : Ins)) (by omega) (by omega))
              replace RR := Hid.mk (RR.out.same (setCells_block g4 kc (by omega) (Ins.vals ({ op := 99, a := 0, b := 0, c := 0, m := 0 } : Ins)) (k * 5) wr))
              refine wpList_plain rfl (fun K hK => ?_)
              refine wp_store_mid _ _ _ rfl _ _ (List.toArray (Ins.vals ({ op := 99, a := 0, b := 0, c := 0, m := 0 } : Ins))) rfl rfl hT.out (by kernel_rfl) (all_oneCell_toArray (ins_one _)) (hK _ _ ?_)
              clear hK K hT
              try simp only [Act.put]
              generalize World.setCells _ _ _ _ = V9 at *
              clear m1 e3
              go_wp2_with fail
              refine ⟨⟨k + 1, ?_, hk, VV, RR⟩, ?_⟩
              · first | rfl | rw [next_wO hk hf2] | go_num
              · first | exact next_mO hk | (rw [next_wO hk hf2]; exact next_mO hk)
            · have hk1 : ¬ (k : Int) < (n' : Int) := fun q => hk (Int.ofNat_lt.1 q)
              go_upto_region 14 with fail
              clear m1 e3
              have VV0 := VV
              have RR0 := RR
              clear VV RR
              go_loopw [5] (fun x wr => ∃ k : Nat, x = .int .i64 k ∧ k ≤ n ∧ Hid (Ov B w0 Wc (fun b => kc ≤ b ∧ b < kg) wr) ∧ Hid (Rst CpV.vals wr kc lc l i)) (fun x _ => n - (intOf x).toNat)
              case atStart => exact ⟨0, rfl, Nat.zero_le _, VV0, RR0⟩
              case round =>
                clear VV0 RR0
                obtain ⟨k, rfl, hk', VV, RR⟩ := hrel
                have m1 : wr.cell? ⟨w.heap.size, 1, none⟩ = some (.slice (some ⟨kc, 0, none⟩) m.comps.length (m.comps.length + 8)) := (VV.out.at_ BM.out (by omega)).2.1 1
                have e3 : wr.cell? ⟨kc, i * 2, none⟩ = some (.slice (some ⟨g1, 0, none⟩) n (n + 8)) := RR.out.cell cp_len hv 0 _ rfl
                by_cases hk : k < n
                · have hk1 : (k : Int) < (n : Int) := Int.ofNat_lt.2 hk
                  have hT := Hid.mk (there_mid (k := 6) (VV.out.there _ _ _ ht.out) (el_le hk))
                  go_upto_region 16 with fail
                  refine wp_region_lit ?_
                  refine wpList_plain rfl (fun K hK => ?_)
                  go_simp
                  with_reducible refine hK _ _ ?_
                  clear hK K
                  try simp only [Act.put, List.setIfInBounds_toArray, List.set_cons_zero, List.set_cons_succ]
                  refine wpList_plain rfl (fun K hK => ?_)
                  go_simp
                  with_reducible refine hK _ _ ?_
                  clear hK K
                  try simp only [Act.put, List.setIfInBounds_toArray, List.set_cons_zero, List.set_cons_succ]
                  refine wpList_plain rfl (fun K hK => ?_)
                  go_simp
                  with_reducible refine hK _ _ ?_
                  clear hK K
                  try simp only [Act.put, List.setIfInBounds_toArray, List.set_cons_zero, List.set_cons_succ]
                  refine wpList_plain rfl (fun K hK => ?_)
                  go_simp
                  with_reducible refine hK _ _ ?_
                  clear hK K
                  try simp only [Act.put, List.setIfInBounds_toArray, List.set_cons_zero, List.set_cons_succ]
                  refine wpList_plain rfl (fun K hK => ?_)
                  go_simp
                  with_reducible refine hK _ _ ?_
                  clear hK K
                  try simp only [Act.put, List.setIfInBounds_toArray, List.set_cons_zero, List.set_cons_succ]
                  refine wpList_plain rfl (fun K hK => ?_)
                  go_simp
                  with_reducible refine hK _ _ ?_
                  clear hK K
                  try simp only [Act.put, List.setIfInBounds_toArray, List.set_cons_zero, List.set_cons_succ]
                  refine wpList_plain rfl (fun K hK => ?_)
                  go_simp
                  with_reducible refine hK _ _ ?_
                  clear hK K
                  try simp only [Act.put, List.setIfInBounds_toArray, List.set_cons_zero, List.set_cons_succ]
                  refine wpList_plain rfl (fun K hK => ?_)
                  go_simp
                  with_reducible refine hK _ _ ?_
                  clear hK K
                  try simp only [Act.put, List.setIfInBounds_toArray, List.set_cons_zero, List.set_cons_succ]
                  refine wpList_plain rfl (fun K hK => ?_)
                  go_simp
                  with_reducible refine hK _ _ ?_
                  clear hK K
                  try simp only [Act.put, List.setIfInBounds_toArray, List.set_cons_zero, List.set_cons_succ]
                  replace VV := Hid.mk (VV.out.sets g1 (k * 6) (PRoot.vals ({ r := 99, b := 0, e := 0, c := 0, p := 0, s := 0 } : PRoot)) (by omega) (by omega))
                  replace RR := Hid.mk (RR.out.same (setCells_block g1 kc (by omega) (PRoot.vals ({ r := 99, b := 0, e := 0, c := 0, p := 0, s := 0 } : PRoot)) (k * 6) wr))
                  refine wpList_plain rfl (fun K hK => ?_)
                  refine wp_store_mid _ _ _ rfl _ _ (List.toArray (PRoot.vals ({ r := 99, b := 0, e := 0, c := 0, p := 0, s := 0 } : PRoot))) rfl rfl hT.out (by kernel_rfl) (all_oneCell_toArray (rot_one _)) (hK _ _ ?_)
                  clear hK K hT
                  try simp only [Act.put]
                  generalize World.setCells _ _ _ _ = V9 at *
                  clear m1 e3
                  go_wp2_with fail
                  refine ⟨⟨k + 1, ?_, hk, VV, RR⟩, ?_⟩
                  · first | rfl | rw [next_wO hk hf1] | go_num
                  · first | exact next_mO hk | (rw [next_wO hk hf1]; exact next_mO hk)
                · have hk1 : ¬ (k : Int) < (n : Int) := fun q => hk (Int.ofNat_lt.1 q)
                  go_upto_region 17 with fail
                  refine wp_region_lit ?_
                  refine wpList_plain rfl (fun K hK => ?_)
                  go_simp
                  with_reducible refine hK _ _ ?_
                  clear hK K
                  try simp only [Act.put, List.setIfInBounds_toArray, List.set_cons_zero, List.set_cons_succ]
                  refine wpList_plain rfl (fun K hK => ?_)
                  go_simp
                  with_reducible refine hK _ _ ?_
                  clear hK K
                  try simp only [Act.put, List.setIfInBounds_toArray, List.set_cons_zero, List.set_cons_succ]
                  refine wpList_plain rfl (fun K hK => ?_)
                  go_simp
                  with_reducible refine hK _ _ ?_
                  clear hK K
                  try simp only [Act.put, List.setIfInBounds_toArray, List.set_cons_zero, List.set_cons_succ]
                  refine wpList_plain rfl (fun K hK => ?_)
                  go_simp
                  with_reducible refine hK _ _ ?_
                  clear hK K
                  try simp only [Act.put, List.setIfInBounds_toArray, List.set_cons_zero, List.set_cons_succ]
                  refine wpList_plain rfl (fun K hK => ?_)
                  go_simp
                  with_reducible refine hK _ _ ?_
                  clear hK K
                  try simp only [Act.put, List.setIfInBounds_toArray, List.set_cons_zero, List.set_cons_succ]
                  have hT := Hid.mk (RR.out.at_.there (i * 2) 2 (by rw [row_len (pre := []) cp_len, RR.out.len]; simp; exact el_le hlr))
                  replace VV := Hid.mk (VV.out.sets kc (i * 2) (CpV.vals cpZ) (by omega) (by omega))
                  replace RR := Hid.mk (RR.out.next cp_len hlr cpZ)
                  refine wpList_plain rfl (fun K hK => ?_)
                  refine wp_store_mid _ _ _ rfl _ _ (List.toArray (CpV.vals cpZ)) rfl rfl hT.out (by kernel_rfl) (all_oneCell_toArray (cp_one _)) (hK _ _ ?_)
                  clear hK K hT
                  try simp only [Act.put]
                  generalize World.setCells _ _ _ _ = V9 at *
                  clear m1 e3
                  go_wp2_with fail
                  refine ⟨⟨i + 1, _, ?_, hn, VV, RR⟩, ?_⟩
                  · first | rfl | rw [next_wO hn l2] | go_num
                  · first | exact next_mO hn | (rw [next_wO hn l2]; exact next_mO hn)
        · have hi1 : ¬ (i : Int) < (m.comps.length : Int) := fun q => hn (Int.ofNat_lt.1 q)
          have ei : i = m.comps.length := Nat.le_antisymm hi' (Nat.le_of_not_lt hn)
          subst ei
          go_upto_region 19 with fail
          clear m1
          have A4 := Hid.mk (VV.out.at_ A3.out (by omega))
          have P2 := Hid.mk (fun b o n h => VV.out.there b o n (P1.out b o n h))
          have BM1 := Hid.mk (VV.out.at_ BM.out (by omega))
          clear BM A3 P1
          have BM := BM1
          clear BM1
          have V2 : Hid (Ov B w0 wr (fun b => kg ≤ b ∧ b < w.heap.size) wr) := Hid.mk (Ov.refl VV.out.gr)
          clear VV RR V1 R1
          generalize wr = Wd at *
          have R2 : Hid (Rst GtV.vals Wd kg lg lg 0) := Hid.mk ⟨A4.out, rfl, fun _ _ => rfl⟩
          clear A4
          go_loopw [6] (fun x wr => ∃ (i : Nat) (l : List GtV), x = .int .i64 i ∧ i ≤ m.gates.length ∧ Hid (Ov B w0 Wd (fun b => kg ≤ b ∧ b < w.heap.size) wr) ∧ Hid (Rst GtV.vals wr kg lg l i)) (fun x _ => m.gates.length - (intOf x).toNat)
          case atStart => exact ⟨0, lg, rfl, Nat.zero_le _, V2, R2⟩
          case round =>
            obtain ⟨i, l, rfl, hi', VV, RR⟩ := hrel
            have m2 : wr.cell? ⟨w.heap.size, 2, none⟩ = some (.slice (some ⟨kg, 0, none⟩) m.gates.length (m.gates.length + 8)) := (VV.out.at_ BM.out (by omega)).2.1 2
            by_cases hn : i < m.gates.length
            · have hi1 : (i : Int) < (m.gates.length : Int) := Int.ofNat_lt.2 hn
              obtain ⟨v, g1, g4, hv, e1, g2, ht, e2, g5, ht2⟩ := glist hI.out hS.out i hn
              have hq := glt hI0.out i hn v hv
              have hq1 := hq.1 g1 (by rw [e1])
              have hq2 := hq.2 g4 (by rw [e2])
              clear hq
              have hlr : i < lg.length := (List.getElem?_eq_some_iff.1 hv).1
              have hfit := hF.out.gs _ (List.getElem_mem hn)
              have hf1 : m.gates[i].args.length ≤ 281474976710648 := by omega
              have hf2 : m.gates[i].res.length ≤ 281474976710648 := by omega
              clear hfit
              have hx1 := Hid.mk (P2.out _ _ _ ht)
              have hx2 := Hid.mk (P2.out _ _ _ ht2)
              clear ht ht2
              obtain ⟨vc, ve, vx, vy⟩ := v
              dsimp only at e1 e2
              subst e1 e2
              generalize m.gates[i].args.length = n at *
              generalize m.gates[i].res.length = n' at *
              go_upto_region 22 with fail
              clear m2
              have VV0 := VV
              have RR0 := RR
              clear VV RR
              go_loopw [7] (fun x wr => ∃ k : Nat, x = .int .i64 k ∧ k ≤ n ∧ Hid (Ov B w0 Wd (fun b => kg ≤ b ∧ b < w.heap.size) wr) ∧ Hid (Rst GtV.vals wr kg lg l i)) (fun x _ => n - (intOf x).toNat)
              case atStart => exact ⟨0, rfl, Nat.zero_le _, VV0, RR0⟩
              case round =>
                clear VV0 RR0
                obtain ⟨k, rfl, hk', VV, RR⟩ := hrel
                have m2 : wr.cell? ⟨w.heap.size, 2, none⟩ = some (.slice (some ⟨kg, 0, none⟩) m.gates.length (m.gates.length + 8)) := (VV.out.at_ BM.out (by omega)).2.1 2
                have e3 : wr.cell? ⟨kg, i * 4 + 1 + 1, none⟩ = some (.slice (some ⟨g1, 0, none⟩) n (n + 8)) := RR.out.cell gt_len hv 2 _ rfl
                by_cases hk : k < n
                · have hk1 : (k : Int) < (n : Int) := Int.ofNat_lt.2 hk
                  obtain ⟨y9, c9, f9⟩ := there_one (VV.out.there _ _ _ hx1.out) (el_lt hk 4 (by decide))
                  replace VV := Hid.mk (VV.out.sets g1 (k * 7 + 4) [.int .u64 99] (by omega) (by omega))
                  replace RR := Hid.mk (RR.out.same (setCells_block g1 kg (by omega) [.int .u64 99] (k * 7 + 4) wr))
                  simp only [World.setCells] at VV RR
                  go_wp2_with fail
                  refine ⟨⟨k + 1, ?_, hk, VV, RR⟩, ?_⟩
                  · first | rfl | rw [next_wO hk hf1] | go_num
                  · first | exact next_mO hk | (rw [next_wO hk hf1]; exact next_mO hk)
                · have hk1 : ¬ (k : Int) < (n : Int) := fun q => hk (Int.ofNat_lt.1 q)
                  go_upto_region 26 with fail
                  clear m2 e3
                  have VV0 := VV
                  have RR0 := RR
                  clear VV RR
                  go_loopw [8] (fun x wr => ∃ k : Nat, x = .int .i64 k ∧ k ≤ n' ∧ Hid (Ov B w0 Wd (fun b => kg ≤ b ∧ b < w.heap.size) wr) ∧ Hid (Rst GtV.vals wr kg lg l i)) (fun x _ => n' - (intOf x).toNat)
                  case atStart => exact ⟨0, rfl, Nat.zero_le _, VV0, RR0⟩
                  case round =>
                    clear VV0 RR0
                    obtain ⟨k, rfl, hk', VV, RR⟩ := hrel
                    have m2 : wr.cell? ⟨w.heap.size, 2, none⟩ = some (.slice (some ⟨kg, 0, none⟩) m.gates.length (m.gates.length + 8)) := (VV.out.at_ BM.out (by omega)).2.1 2
                    have e3 : wr.cell? ⟨kg, i * 4 + 1 + 1 + 1, none⟩ = some (.slice (some ⟨g4, 0, none⟩) n' (n' + 8)) := RR.out.cell gt_len hv 3 _ rfl
                    by_cases hk : k < n'
                    · have hk1 : (k : Int) < (n' : Int) := Int.ofNat_lt.2 hk
                      obtain ⟨y9, c9, f9⟩ := there_one (VV.out.there _ _ _ hx2.out) (el_lt hk 4 (by decide))
                      replace VV := Hid.mk (VV.out.sets g4 (k * 7 + 4) [.int .u64 99] (by omega) (by omega))
                      replace RR := Hid.mk (RR.out.same (setCells_block g4 kg (by omega) [.int .u64 99] (k * 7 + 4) wr))
                      simp only [World.setCells] at VV RR
                      go_wp2_with fail
                      refine ⟨⟨k + 1, ?_, hk, VV, RR⟩, ?_⟩
                      · first | rfl | rw [next_wO hk hf2] | go_num
                      · first | exact next_mO hk | (rw [next_wO hk hf2]; exact next_mO hk)
                    · have hk1 : ¬ (k : Int) < (n' : Int) := fun q => hk (Int.ofNat_lt.1 q)
                      go_upto_region 29 with fail
                      refine wp_region_lit ?_
                      refine wpList_plain rfl (fun K hK => ?_)
                      go_simp
                      with_reducible refine hK _ _ ?_
                      clear hK K
                      try simp only [Act.put, List.setIfInBounds_toArray, List.set_cons_zero, List.set_cons_succ]
                      refine wpList_plain rfl (fun K hK => ?_)
                      go_simp
                      with_reducible refine hK _ _ ?_
                      clear hK K
                      try simp only [Act.put, List.setIfInBounds_toArray, List.set_cons_zero, List.set_cons_succ]
                      refine wpList_plain rfl (fun K hK => ?_)
                      go_simp
                      with_reducible refine hK _ _ ?_
                      clear hK K
                      try simp only [Act.put, List.setIfInBounds_toArray, List.set_cons_zero, List.set_cons_succ]
                      refine wpList_plain rfl (fun K hK => ?_)
                      go_simp
                      with_reducible refine hK _ _ ?_
                      clear hK K
                      try simp only [Act.put, List.setIfInBounds_toArray, List.set_cons_zero, List.set_cons_succ]
                      refine wpList_plain rfl (fun K hK => ?_)
                      go_simp
                      with_reducible refine hK _ _ ?_
                      clear hK K
                      try simp only [Act.put, List.setIfInBounds_toArray, List.set_cons_zero, List.set_cons_succ]
                      have hT := Hid.mk (RR.out.at_.there (i * 4) 4 (by rw [row_len (pre := []) gt_len, RR.out.len]; simp; exact el_le hlr))
                      replace VV := Hid.mk (VV.out.sets kg (i * 4) (GtV.vals (⟨99, 0, nilS, nilS⟩ : GtV)) (by omega) (by omega))
                      replace RR := Hid.mk (RR.out.next gt_len hlr (⟨99, 0, nilS, nilS⟩ : GtV))
                      refine wpList_plain rfl (fun K hK => ?_)
                      refine wp_store_mid _ _ _ rfl _ _ (List.toArray (GtV.vals (⟨99, 0, nilS, nilS⟩ : GtV))) rfl rfl hT.out (by kernel_rfl) (all_oneCell_toArray (gt_one _)) (hK _ _ ?_)
                      clear hK K hT
                      try simp only [Act.put]
                      generalize World.setCells _ _ _ _ = V9 at *
                      clear m2 e3
                      go_wp2_with fail
                      refine ⟨⟨i + 1, _, ?_, hn, VV, RR⟩, ?_⟩
                      · first | rfl | rw [next_wO hn l3] | go_num
                      · first | exact next_mO hn | (rw [next_wO hn l3]; exact next_mO hn)
            · have hi1 : ¬ (i : Int) < (m.gates.length : Int) := fun q => hn (Int.ofNat_lt.1 q)
              have ei : i = m.gates.length := Nat.le_antisymm hi' (Nat.le_of_not_lt hn)
              subst ei
              go_wp2_with fail
              simp [bodyPost, results, Tryz.results10, go_sem]
              exact VV.out.gr
end Q
end Go.Proofs.YtmmakknhaacplaaGreatDoor
