import Derived.Test.YtikbbolgobhmiaaTStil
import Derived.Test.YtikbbolgobhmiaaTSetE
import Derived.Test.YtikbbolgobhmiaaTEnds
import Derived.Test.YtikbbolgobhmiaaP29
import Derived.Test.YtikbbolgobhmiaaTDocC
import Derived.Test.YtikbbolgobhmiaaP20
/-
  Stage 6, tagmem: the walk of the statement on New.
-/
namespace Go.Proofs.Ytikbbolgobhmiaa
namespace T
open Go.RowKit

theorem next_wT2 {k n : Nat} (h : k < n) (hn : (n + 6) * 64 ≤ 140737488355328) : wrap64 ((k : Int) + 1) = ((k + 1 : Nat) : Int) := by unfold wrap64; omega
theorem own_sl {w : World} {lo e s n : Nat} {v : Value} {xs : List Value} (h : w.ownsRow lo e s v n xs) : ∃ a c, v = .slice a n c := by
  rcases h.2 with ⟨rfl, rfl⟩ | ⟨g, cap, cur, rfl, _⟩
  · exact ⟨_, _, rfl⟩
  · exact ⟨_, _, rfl⟩
theorem same_ok {Z Z' : List Zr} {L' : List Rg} (h : SameZ Z Z') (e : L' = Z'.map Zr.r) (hz : ∀ z ∈ Z, z.r.Ok) : ∀ r ∈ L', r.Ok := fun r hr => by
  rw [e] at hr
  obtain ⟨z, hz', rfl⟩ := List.mem_map.1 hr
  obtain ⟨i, hi, rfl⟩ := List.getElem_of_mem hz'
  have hi2 : i < Z.length := by rw [← h.len]; exact hi
  have q := h.at_ i hi2 hi
  have o := hz _ (List.getElem_mem hi2)
  exact ⟨by rw [q.2.2.1]; exact o.rb, by rw [q.2.2.2.2.1]; exact o.rd, by rw [q.2.2.2.2.2]; exact o.rs⟩
theorem tags_gran (t : Nat → Option Cp) : ∀ x ∈ tagsL t 4096, granB x = true ∧ x < 65536 := by
  have key : ∀ n, n ≤ 4096 → ∀ x ∈ tagsL t n, granB x = true ∧ x < 65536 := by
    intro n
    induction n with
    | zero => intro _ x hx; simp [tagsL] at hx
    | succ n ih =>
      intro hn x hx
      rw [tagsL] at hx
      rcases List.mem_append.1 hx with q | q
      · exact ih (by omega) x q
      · split at q
        · rw [List.mem_singleton.1 q]
          refine ⟨?_, by omega⟩
          simp only [granB, Bool.and_eq_true, decide_eq_true_eq]
          omega
        · simp at q
  exact key 4096 (Nat.le_refl _)
theorem next_wT3 {k n : Nat} (h : k < n) (hn : n ≤ 4096) : wrap64 ((k : Int) + 1) = ((k + 1 : Nat) : Int) := by unfold wrap64; omega
set_option maxHeartbeats 1000000 in
theorem val_neq (v : Vl) (W : World) : (binOp .neq 55 (.agg #[.bool v.g, .int .u64 v.n, .int .u64 v.c.b, .int .u64 v.c.e, .int .u64 v.c.c, .int .u8 v.c.p, .int .i64 v.c.s]) (.agg #[.bool v.g, .int .u64 v.n, .int .u64 v.c.b, .int .u64 v.c.e, .int .u64 v.c.c, .int .u8 v.c.p, .int .i64 v.c.s])).run Try.prog W = .ok (.bool false) W := by
  simp [go_sem]
theorem imageT_any (a : Option Addr) (n c : Nat) (w : World) : Calls Try.prog 8 #[.slice a n c] w fun x w' => x = .returned (.agg #[.slice a n c, .slice none 0 0, .slice none 0 0, .int .i64 0]) ∧ Gr w w' := by
  go_enter Try.func8, Try.ntmps8
  go_wp2_with fail
  simp [bodyPost, results, Try.results8, go_sem]
  exact (Gr.refl w).alloc _
theorem kp_sets2 (w : World) (b : Nat) (vs : List Value) (o : Nat) : Kp (fun k => k = b) w (w.setCells b o vs) := by
  have hw : ∀ (vs : List Value) (o : Nat) (W : World), (W.setCells b o vs).os = W.os ∧ (W.setCells b o vs).tape = W.tape ∧ (W.setCells b o vs).output = W.output := by
    intro vs
    induction vs with
    | nil => exact fun _ _ => ⟨rfl, rfl, rfl⟩
    | cons v r ih => exact fun o W => ih (o + 1) (W.setCell ⟨b, o, none⟩ v)
  exact ⟨(hw vs o w).1, (hw vs o w).2.1, (hw vs o w).2.2, by rw [setCells_size]; exact Nat.le_refl _, fun k _ hk => sets_other b vs o w hk⟩
theorem slot_there {lo : Nat} {W : World} {av rv : Value} {Z : List Zr} {n : Nat} (h : LtIn lo W av rv Z n) {i : Nat} (hi : i < Z.length) (k : Nat) (hk : k < Z[i].r.slots.length) : W.there Z[i].g (k * 8) 8 := by
  have ho := h.sl _ (List.getElem_mem hi)
  unfold Zr.own slR Zr.val at ho
  have hl : (Z[i].r.slots ++ List.replicate 6 s77).length = Z[i].r.slots.length + 6 := by simp
  rw [hl] at ho
  rcases ho.2 with ⟨q, _⟩ | ⟨g', cap, cur, q, hb, hg, hn, hc, hz, ht⟩
  · cases q
  · cases q
    intro j hj
    unfold World.cell? World.frozen?
    simp only [hg]
    have hlt : k * 8 + j < cur.size := by
      rw [hz]
      have h1 : (Z[i].r.slots.length + 6) * 8 ≤ Z[i].c * 8 := Nat.mul_le_mul_right 8 hn
      omega
    simp [hlt]
set_option maxRecDepth 100000 in
set_option maxHeartbeats 16000000 in
theorem walk_TagmemNew (L : List Rg) (a : Option Addr) (cap : Nat) (w : World) (hL : RgIn w a L) (hok : RgsOk L) (hF : LFit L) :
    Calls Try.prog 3 #[.slice a L.length cap] w fun x w' => x = .returned (.bool true) ∧ Below w.heap.size w w' := by
  have hlen : L.length ≤ 140737488355328 := hok.len
  replace hL := Hid.mk hL
  replace hok := Hid.mk hok
  replace hF := Hid.mk hF
  go_enter Try.func3, Try.ntmps3
  go_wp2_with fail
  refine (alive_any w).mono ?_
  rintro x w1 ⟨rfl, B1⟩
  have hB : Hid (Below w.heap.size w w1) := Hid.mk B1
  clear B1
  go_wp2_with fail
  refine (lentT_any L a cap w1 (hL.out.below hB.out) hF.out).mono ?_
  rintro x w2 ⟨av, rv, Z, rfl, hZ, hT, B2⟩
  have hZl : Z.length = L.length := by rw [← hZ, List.length_map]
  obtain ⟨gA, cA, e1, hga1, hga2⟩ := World.ownsRow.form hT.all (by omega)
  rw [hZl] at e1
  subst e1
  have hcap : L.length + 6 ≤ cA := own_cap (n := L.length + 6) (by have := hT.all; rwa [hZl] at this)
  obtain ⟨rb, rk, e2⟩ := own_sl hT.rows
  rw [hZl] at e2
  subst e2
  have hlo := hB.out.size
  generalize hlo' : w1.heap.size + 1 + 1 = lo at hT
  replace hB : Hid (Below w.heap.size w w2) := Hid.mk (hB.out.trans (B2.mono hlo))
  replace hT := Hid.mk hT
  replace hZ := Hid.mk hZ
  have hlw := B2.size
  clear B2
  go_upto_region 3 with fail
  refine wp_world (fun W => At W w2.heap.size #[.slice (some ⟨gA, 0, none⟩) (L.length + 6) cA, .slice rb L.length rk, .int .i64 L.length] ∧ Gr w2 W) ⟨At.new w2 _ _, (Gr.refl _).alloc _⟩ ?_
  rintro W3 ⟨BO, G3⟩
  replace BO := Hid.mk BO
  have K3 := G3.below
  have hT2 := Hid.mk (hT.out.below K3)
  have hko : w.heap.size ≤ w2.heap.size := hB.out.size
  have hsl : Hid (∀ z ∈ Z, z.g < w2.heap.size) := Hid.mk (fun z hz => (own_block (hT.out.sl z hz) z.g rfl).2)
  clear hT
  have hT := hT2
  clear hT2
  replace hB : Hid (Below w.heap.size w W3) := Hid.mk (hB.out.trans (K3.mono hB.out.size))
  have hk3 : w2.heap.size < W3.heap.size := BO.out.1
  clear G3 K3
  generalize w2.heap.size = ko at *
  clear w2
  have o0 : W3.cell? ⟨ko, 0, none⟩ = some (.slice (some ⟨gA, 0, none⟩) (L.length + 6) cA) := BO.out.2.1 0
  have o1 : W3.cell? ⟨ko, 1, none⟩ = some (.slice rb L.length rk) := BO.out.2.1 1
  have o2 : W3.cell? ⟨ko, 2, none⟩ = some (.int .i64 L.length) := BO.out.2.1 2
  go_wp2_with fail
  refine (given_any gA cA (.slice rb L.length rk) L.length W3 hcap).mono ?_
  rintro x W4 ⟨rfl, G1⟩
  clear o0 o1 o2
  replace G1 := G1.below
  replace BO : Hid (At W4 ko #[.slice (some ⟨gA, 0, none⟩) (L.length + 6) cA, .slice rb L.length rk, .int .i64 L.length]) := Hid.mk (At.undT BO.out G1 BO.out.1)
  replace hT : Hid (LtIn lo W4 (.slice (some ⟨gA, 0, none⟩) (L.length + 6) cA) (.slice rb L.length rk) Z 6) := Hid.mk (hT.out.below G1)
  replace hB : Hid (Below w.heap.size w W4) := Hid.mk (hB.out.trans (G1.mono hB.out.size))
  clear G1
  go_wp2_with fail
  refine (imageT_any (some ⟨gA, 0, none⟩) L.length cA W4).mono ?_
  rintro x W5 ⟨rfl, G1⟩
  replace G1 := G1.below
  replace BO : Hid (At W5 ko #[.slice (some ⟨gA, 0, none⟩) (L.length + 6) cA, .slice rb L.length rk, .int .i64 L.length]) := Hid.mk (At.undT BO.out G1 BO.out.1)
  replace hT : Hid (LtIn lo W5 (.slice (some ⟨gA, 0, none⟩) (L.length + 6) cA) (.slice rb L.length rk) Z 6) := Hid.mk (hT.out.below G1)
  replace hB : Hid (Below w.heap.size w W5) := Hid.mk (hB.out.trans (G1.mono hB.out.size))
  clear G1
  have hRg := Hid.mk (lt_rg (Z := Z) (cA := cA) (rv := (.slice rb L.length rk)) (lo := lo) (by rw [hZl]; exact hT.out))
  rw [hZ.out] at hRg
  have hsz5 : ko < W5.heap.size := BO.out.1
  go_wp2_with fail
  refine (newTagged_any L (some ⟨gA, 0, none⟩) cA _ _ _ W5 hRg.out hok.out.ok hlen).mono ?_
  rintro x W6 ⟨Sx, rfl, hX, hSx, G1⟩
  replace hX := Hid.mk hX
  replace hSx := Hid.mk (show ∀ k, Sx k → ko < k from fun k q => Nat.lt_trans hsz5 (hSx k q))
  replace BO : Hid (At W6 ko #[.slice (some ⟨gA, 0, none⟩) (L.length + 6) cA, .slice rb L.length rk, .int .i64 L.length]) := Hid.mk (At.undT BO.out G1 BO.out.1)
  replace hT : Hid (LtIn lo W6 (.slice (some ⟨gA, 0, none⟩) (L.length + 6) cA) (.slice rb L.length rk) Z 6) := Hid.mk (hT.out.below G1)
  replace hB : Hid (Below w.heap.size w W6) := Hid.mk (hB.out.trans (G1.mono hB.out.size))
  clear G1
  generalize W5.heap.size + 1 = ax at *
  clear hRg hsz5
  go_upto_region 6 with fail
  have o0 : W6.cell? ⟨ko, 0, none⟩ = some (.slice (some ⟨gA, 0, none⟩) (L.length + 6) cA) := BO.out.2.1 0
  have o1 : W6.cell? ⟨ko, 1, none⟩ = some (.slice rb L.length rk) := BO.out.2.1 1
  have o2 : W6.cell? ⟨ko, 2, none⟩ = some (.int .i64 L.length) := BO.out.2.1 2
  have hst := Hid.mk (still_any Z (.slice (some ⟨gA, 0, none⟩) (L.length + 6) cA) (.slice rb L.length rk) a cap lo W6 hT.out (by rw [hZ.out]; exact hL.out.below hB.out) (by rw [hZ.out]; exact hF.out))
  rw [hZl] at hst
  go_wp2_with fail
  refine hst.out.mono ?_
  rintro x W7 ⟨rfl, G1⟩
  clear o0 o1 o2 hst
  replace G1 := G1.below
  replace BO : Hid (At W7 ko #[.slice (some ⟨gA, 0, none⟩) (L.length + 6) cA, .slice rb L.length rk, .int .i64 L.length]) := Hid.mk (At.undT BO.out G1 BO.out.1)
  replace hT : Hid (LtIn lo W7 (.slice (some ⟨gA, 0, none⟩) (L.length + 6) cA) (.slice rb L.length rk) Z 6) := Hid.mk (hT.out.below G1)
  replace hB : Hid (Below w.heap.size w W7) := Hid.mk (hB.out.trans (G1.mono hB.out.size))
  replace hX := Hid.mk (hX.out.gr G1)
  clear G1
  go_upto_region 10 with fail
  have hS0 : Hid (SameZ Z Z) := Hid.mk (SameZ.refl (fun z hz x hx => hok.out.sl z.r (by rw [← hZ.out]; exact List.mem_map_of_mem hz) x hx))
  have T0 := hT
  have B0 := hB
  have X0 := hX
  have O0 := BO
  clear hT hB hX BO
  go_loopw [7] (fun x wr => ∃ (i : Nat) (Z' : List Zr), x = .int .i64 i ∧ i ≤ L.length ∧ Hid (SameZ Z Z') ∧ Hid (LtIn lo wr (.slice (some ⟨gA, 0, none⟩) (L.length + 6) cA) (.slice rb L.length rk) Z' 6) ∧ Hid (At wr ko #[.slice (some ⟨gA, 0, none⟩) (L.length + 6) cA, .slice rb L.length rk, .int .i64 L.length]) ∧ Hid (TgIn Sx wr ax (rgB L L.length) (rgT L L.length)) ∧ Hid (Below w.heap.size w wr)) (fun x _ => L.length - (intOf x).toNat)
  case atStart => exact ⟨0, Z, rfl, Nat.zero_le _, hS0, T0, O0, X0, B0⟩
  case round =>
    clear hS0 T0 B0 X0 O0
    obtain ⟨i, Z', rfl, hi, hS, hT, BO, hX, hB⟩ := hrel
    by_cases hlt : i < L.length
    · have hi1 : (i : Int) < (L.length : Int) := Int.ofNat_lt.2 hlt
      have hlz : i < Z.length := by omega
      have hfs := hF.out.s _ (List.getElem_mem hlt)
      have hrz : Z[i].r = L[i] := by have := List.getElem_map (f := Zr.r) (l := Z) (i := i) (h := by simpa using hlz); rw [← this]; simp only [hZ.out]
      obtain ⟨b, off, sa, sc, rfl, hb, c0, c1, c2, c3, hs⟩ := hL.out i hlt
      replace c3 := Hid.mk c3
      clear c0 c1 c2 hs
      go_upto_region 13 with fail
      have S0 := hS
      have T0 := hT
      have B0 := hB
      have X0 := hX
      have O0 := BO
      clear hT hB hX BO hS
      go_loopw [8] (fun x wr => ∃ (k : Nat) (Z' : List Zr), x = .int .i64 k ∧ k ≤ L[i].slots.length ∧ Hid (SameZ Z Z') ∧ Hid (LtIn lo wr (.slice (some ⟨gA, 0, none⟩) (L.length + 6) cA) (.slice rb L.length rk) Z' 6) ∧ Hid (At wr ko #[.slice (some ⟨gA, 0, none⟩) (L.length + 6) cA, .slice rb L.length rk, .int .i64 L.length]) ∧ Hid (TgIn Sx wr ax (rgB L L.length) (rgT L L.length)) ∧ Hid (Below w.heap.size w wr)) (fun x _ => L[i].slots.length - (intOf x).toNat)
      case atStart => exact ⟨0, _, rfl, Nat.zero_le _, S0, T0, O0, X0, B0⟩
      case round =>
        clear S0 T0 B0 X0 O0
        obtain ⟨k, Z', rfl, hk, hS, hT, BO, hX, hB⟩ := hrel
        have e3 : wr.cell? ⟨b, off + i * 4 + 3, none⟩ = some (.slice sa L[i].slots.length sc) := (cell_of_block (hB.out.block b hb) _).trans c3.out
        by_cases hkl : k < L[i].slots.length
        · have hk1 : (k : Int) < (L[i].slots.length : Int) := Int.ofNat_lt.2 hkl
          have hz' : i < Z'.length := by rw [hS.out.len]; exact hlz
          have hat := hS.out.at_ i hlz hz'
          have hk6 : k < Z'[i].r.slots.length := by rw [hat.2.2.2.2.2, hrz]; exact hkl
          have e6 : Z'[i].r.slots.length = L[i].slots.length := by rw [hat.2.2.2.2.2, hrz]
          obtain ⟨gB, cB, e7, hgb1, hgb2⟩ := World.ownsRow.form hT.out.rows (by omega)
          rw [hS.out.len, hZl] at e7
          have o1 : wr.cell? ⟨ko, 1, none⟩ = some (.slice (some ⟨gB, 0, none⟩) L.length cB) := by rw [← e7]; exact BO.out.2.1 1
          have y1 : wr.cell? ⟨gB, i, none⟩ = some (.slice (some ⟨Z'[i].g, 0, none⟩) (L[i].slots.length + 6) Z'[i].c) := by
            have hr := hT.out.rows
            rw [hS.out.len, hZl, e7] at hr
            have := own_cell hr rfl i _ (rows_at hz')
            rw [this]
            unfold Zr.val
            rw [e6]
          have hk2 : (k : Int) < ((L[i].slots.length + 6 : Nat) : Int) := by omega
          have hk3 : (k : Int) < (L[i].slots.length : Int) + 6 := by omega
          have th := Hid.mk (slot_there hT.out hz' k hk6)
          have nT := Hid.mk (hT.out.put i k hz' hk6)
          have nS := Hid.mk (hS.out.put i k hz')
          have hgi : Z'[i].g < ko := by rw [hat.1]; exact hsl.out _ (List.getElem_mem hlz)
          have hgl : lo ≤ Z'[i].g := (own_block (hT.out.sl _ (List.getElem_mem hz')) Z'[i].g rfl).1
          have nO := Hid.mk (BO.out.other (b' := Z'[i].g) (by omega) (k * 8) (Sl.vals s5))
          have nK := kp_sets2 wr Z'[i].g (Sl.vals s5) (k * 8)
          have nX := Hid.mk (hX.out.keep nK (fun q hq e => by have := hSx.out q hq; omega))
          have nB := Hid.mk (hB.out.trans (nK.below hB.out.size (fun q e => by omega)))
          clear e7 hat hS hT BO hX hB nK hgb1 hgb2
          go_upto_region 15 with fail
          refine wp_region_lit ?_
          refine wpList_plain rfl (fun K hK => ?_)
          go_simp
          with_reducible refine hK _ _ ?_
          clear hK K
          try simp only [Act.put, List.setIfInBounds_toArray, List.set_cons_zero, List.set_cons_succ]
          refine wpList_plain rfl (fun K hK => ?_)
          go_simp
          with_reducible refine hK _ _ ?_
          clear hK K
          try simp only [Act.put, List.setIfInBounds_toArray, List.set_cons_zero, List.set_cons_succ]
          refine wpList_plain rfl (fun K hK => ?_)
          go_simp
          with_reducible refine hK _ _ ?_
          clear hK K
          try simp only [Act.put, List.setIfInBounds_toArray, List.set_cons_zero, List.set_cons_succ]
          refine wpList_plain rfl (fun K hK => ?_)
          go_simp
          with_reducible refine hK _ _ ?_
          clear hK K
          try simp only [Act.put, List.setIfInBounds_toArray, List.set_cons_zero, List.set_cons_succ]
          refine wpList_plain rfl (fun K hK => ?_)
          go_simp
          with_reducible refine hK _ _ ?_
          clear hK K
          try simp only [Act.put, List.setIfInBounds_toArray, List.set_cons_zero, List.set_cons_succ]
          refine wpList_plain rfl (fun K hK => ?_)
          go_simp
          with_reducible refine hK _ _ ?_
          clear hK K
          try simp only [Act.put, List.setIfInBounds_toArray, List.set_cons_zero, List.set_cons_succ]
          refine wpList_plain rfl (fun K hK => ?_)
          go_simp
          with_reducible refine hK _ _ ?_
          clear hK K
          try simp only [Act.put, List.setIfInBounds_toArray, List.set_cons_zero, List.set_cons_succ]
          refine wpList_plain rfl (fun K hK => ?_)
          go_simp
          with_reducible refine hK _ _ ?_
          clear hK K
          try simp only [Act.put, List.setIfInBounds_toArray, List.set_cons_zero, List.set_cons_succ]
          refine wpList_plain rfl (fun K hK => ?_)
          refine wp_store_mid _ _ _ rfl _ _ (List.toArray (Sl.vals s5)) rfl rfl th.out (by kernel_rfl) (all_oneCell_toArray (sl_one s5)) (hK _ _ ?_)
          clear hK K th o1 y1 e3
          try simp only [Act.put]
          generalize World.setCells _ _ _ _ = V9 at *
          go_wp2_with fail
          refine ⟨⟨k + 1, _, ?_, hkl, nS, nT, nO, nX, nB⟩, ?_⟩
          · first | rfl | rw [next_wT2 hkl hfs] | go_num
          · first | exact next_mT hkl | (rw [next_wT2 hkl hfs]; exact next_mT hkl)
        · have hk1 : ¬ (k : Int) < (L[i].slots.length : Int) := fun q => hkl (Int.ofNat_lt.1 q)
          go_wp2_with fail
          refine ⟨⟨i + 1, _, ?_, hlt, hS, hT, BO, hX, hB⟩, ?_⟩
          · first | rfl | rw [next_wT hlt hF.out.n] | go_num
          · first | exact next_mT hlt | (rw [next_wT hlt hF.out.n]; exact next_mT hlt)
    · have hi1 : ¬ (i : Int) < (L.length : Int) := fun q => hlt (Int.ofNat_lt.1 q)
      clear hlt hi
      have hz'l : Z'.length = L.length := by rw [hS.out.len, hZl]
      obtain ⟨L', hL'⟩ : ∃ L', L' = Z'.map Zr.r := ⟨_, rfl⟩
      have hl' : L'.length = L.length := by rw [hL', List.length_map, hz'l]
      have hok' : Hid (∀ r ∈ L', r.Ok) := Hid.mk (same_ok hS.out hL' (fun z hz => hok.out.ok z.r (by rw [← hZ.out]; exact List.mem_map_of_mem hz)))
      have hsl' : Hid (∀ r ∈ L', ∀ x ∈ r.slots, x.c < 18446744073709551616) := Hid.mk (fun r hr x hx => by
        rw [hL'] at hr
        obtain ⟨z, hz, rfl⟩ := List.mem_map.1 hr
        exact hS.out.sl z hz x hx)
      go_upto_region 16 with fail
      have o0 : wr.cell? ⟨ko, 0, none⟩ = some (.slice (some ⟨gA, 0, none⟩) (L.length + 6) cA) := BO.out.2.1 0
      have o1 : wr.cell? ⟨ko, 1, none⟩ = some (.slice rb L.length rk) := BO.out.2.1 1
      have o2 : wr.cell? ⟨ko, 2, none⟩ = some (.int .i64 L.length) := BO.out.2.1 2
      go_wp2_with fail
      refine (given_any gA cA (.slice rb L.length rk) L.length wr hcap).mono ?_
      rintro x W8 ⟨rfl, G1⟩
      clear o0 o1 o2
      replace G1 := G1.below
      replace BO : Hid (At W8 ko #[.slice (some ⟨gA, 0, none⟩) (L.length + 6) cA, .slice rb L.length rk, .int .i64 L.length]) := Hid.mk (At.undT BO.out G1 BO.out.1)
      replace hT : Hid (LtIn lo W8 (.slice (some ⟨gA, 0, none⟩) (L.length + 6) cA) (.slice rb L.length rk) Z' 6) := Hid.mk (hT.out.below G1)
      replace hB : Hid (Below w.heap.size w W8) := Hid.mk (hB.out.trans (G1.mono hB.out.size))
      replace hX := Hid.mk (hX.out.gr G1)
      clear G1
      go_wp2_with fail
      refine (imageT_any (some ⟨gA, 0, none⟩) L.length cA W8).mono ?_
      rintro x W9 ⟨rfl, G1⟩
      replace G1 := G1.below
      replace BO : Hid (At W9 ko #[.slice (some ⟨gA, 0, none⟩) (L.length + 6) cA, .slice rb L.length rk, .int .i64 L.length]) := Hid.mk (At.undT BO.out G1 BO.out.1)
      replace hT : Hid (LtIn lo W9 (.slice (some ⟨gA, 0, none⟩) (L.length + 6) cA) (.slice rb L.length rk) Z' 6) := Hid.mk (hT.out.below G1)
      replace hB : Hid (Below w.heap.size w W9) := Hid.mk (hB.out.trans (G1.mono hB.out.size))
      replace hX := Hid.mk (hX.out.gr G1)
      clear G1
      have hRg := Hid.mk (lt_rg (Z := Z') (cA := cA) (rv := (.slice rb L.length rk)) (lo := lo) (by rw [hz'l]; exact hT.out))
      rw [← hL'] at hRg
      have hcl := Hid.mk (newTagged_any L' (some ⟨gA, 0, none⟩) cA (.slice none 0 0) (.slice none 0 0) (.int .i64 0) W9 hRg.out hok'.out (by rw [hl']; exact hlen))
      rw [hl'] at hcl
      go_wp2_with fail
      refine hcl.out.mono ?_
      rintro x W10 ⟨Sq, rfl, hQ, hSq, G1⟩
      replace hQ := Hid.mk hQ
      clear hcl hSq
      replace BO : Hid (At W10 ko #[.slice (some ⟨gA, 0, none⟩) (L.length + 6) cA, .slice rb L.length rk, .int .i64 L.length]) := Hid.mk (At.undT BO.out G1 BO.out.1)
      replace hT : Hid (LtIn lo W10 (.slice (some ⟨gA, 0, none⟩) (L.length + 6) cA) (.slice rb L.length rk) Z' 6) := Hid.mk (hT.out.below G1)
      replace hB : Hid (Below w.heap.size w W10) := Hid.mk (hB.out.trans (G1.mono hB.out.size))
      replace hX := Hid.mk (hX.out.gr G1)
      clear G1
      generalize W9.heap.size + 1 = aq at *
      clear hRg
      go_upto_region 19 with fail
      have o0 : W10.cell? ⟨ko, 0, none⟩ = some (.slice (some ⟨gA, 0, none⟩) (L.length + 6) cA) := BO.out.2.1 0
      have o1 : W10.cell? ⟨ko, 1, none⟩ = some (.slice rb L.length rk) := BO.out.2.1 1
      have o2 : W10.cell? ⟨ko, 2, none⟩ = some (.int .i64 L.length) := BO.out.2.1 2
      go_wp2_with fail
      refine (given_any gA cA (.slice rb L.length rk) L.length W10 hcap).mono ?_
      rintro x W11 ⟨rfl, G1⟩
      clear o0 o1 o2
      replace G1 := G1.below
      replace BO : Hid (At W11 ko #[.slice (some ⟨gA, 0, none⟩) (L.length + 6) cA, .slice rb L.length rk, .int .i64 L.length]) := Hid.mk (At.undT BO.out G1 BO.out.1)
      replace hT : Hid (LtIn lo W11 (.slice (some ⟨gA, 0, none⟩) (L.length + 6) cA) (.slice rb L.length rk) Z' 6) := Hid.mk (hT.out.below G1)
      replace hB : Hid (Below w.heap.size w W11) := Hid.mk (hB.out.trans (G1.mono hB.out.size))
      replace hX := Hid.mk (hX.out.gr G1)
      replace hQ := Hid.mk (hQ.out.gr G1)
      clear G1
      go_wp2_with fail
      refine (imageT_any (some ⟨gA, 0, none⟩) L.length cA W11).mono ?_
      rintro x W12 ⟨rfl, G1⟩
      replace G1 := G1.below
      replace BO : Hid (At W12 ko #[.slice (some ⟨gA, 0, none⟩) (L.length + 6) cA, .slice rb L.length rk, .int .i64 L.length]) := Hid.mk (At.undT BO.out G1 BO.out.1)
      replace hT : Hid (LtIn lo W12 (.slice (some ⟨gA, 0, none⟩) (L.length + 6) cA) (.slice rb L.length rk) Z' 6) := Hid.mk (hT.out.below G1)
      replace hB : Hid (Below w.heap.size w W12) := Hid.mk (hB.out.trans (G1.mono hB.out.size))
      replace hX := Hid.mk (hX.out.gr G1)
      replace hQ := Hid.mk (hQ.out.gr G1)
      clear G1
      have hRg := Hid.mk (lt_rg (Z := Z') (cA := cA) (rv := (.slice rb L.length rk)) (lo := lo) (by rw [hz'l]; exact hT.out))
      rw [← hL'] at hRg
      have hcl := Hid.mk (dNew_any L' (some ⟨gA, 0, none⟩) cA (.slice none 0 0) (.slice none 0 0) (.int .i64 0) W12 hRg.out hok'.out hsl'.out (by rw [hl']; exact hlen))
      rw [hl'] at hcl
      go_wp2_with fail
      refine hcl.out.mono ?_
      rintro x W13 ⟨dq, Sd, tg, cp, rfl, hD, hRel, hSd, G1⟩
      replace hD := Hid.mk hD
      replace hRel := Hid.mk hRel
      clear hcl hSd hRg
      replace BO : Hid (At W13 ko #[.slice (some ⟨gA, 0, none⟩) (L.length + 6) cA, .slice rb L.length rk, .int .i64 L.length]) := Hid.mk (At.undT BO.out G1 BO.out.1)
      replace hT : Hid (LtIn lo W13 (.slice (some ⟨gA, 0, none⟩) (L.length + 6) cA) (.slice rb L.length rk) Z' 6) := Hid.mk (hT.out.below G1)
      replace hB : Hid (Below w.heap.size w W13) := Hid.mk (hB.out.trans (G1.mono hB.out.size))
      replace hX := Hid.mk (hX.out.gr G1)
      replace hQ := Hid.mk (hQ.out.gr G1)
      clear G1
      go_upto_region 20 with fail
      refine wp_world (fun W => At W W13.heap.size #[.pointer (some ⟨aq, 0, none⟩), .pointer (some ⟨dq, 0, none⟩)] ∧ Gr W13 W) ⟨At.new W13 _ _, (Gr.refl _).alloc _⟩ ?_
      rintro W14 ⟨BQ, G1⟩
      replace G1 := G1.below
      replace BO : Hid (At W14 ko #[.slice (some ⟨gA, 0, none⟩) (L.length + 6) cA, .slice rb L.length rk, .int .i64 L.length]) := Hid.mk (At.undT BO.out G1 BO.out.1)
      replace hT : Hid (LtIn lo W14 (.slice (some ⟨gA, 0, none⟩) (L.length + 6) cA) (.slice rb L.length rk) Z' 6) := Hid.mk (hT.out.below G1)
      replace hB : Hid (Below w.heap.size w W14) := Hid.mk (hB.out.trans (G1.mono hB.out.size))
      replace hX := Hid.mk (hX.out.gr G1)
      replace hQ := Hid.mk (hQ.out.gr G1)
      replace hD := Hid.mk (hD.out.gr G1)
      clear G1
      have p0 : W14.cell? ⟨W13.heap.size, 0, none⟩ = some (.pointer (some ⟨aq, 0, none⟩)) := BQ.2.1 0
      have p1 : W14.cell? ⟨W13.heap.size, 1, none⟩ = some (.pointer (some ⟨dq, 0, none⟩)) := BQ.2.1 1
      clear BQ
      go_wp2_with fail
      refine (T.ends_any Sq Sd aq dq _ _ tg cp W14 hQ.out hD.out hRel.out).mono ?_
      rintro x W15 ⟨rfl, G1⟩
      clear p0 p1 hQ hD hRel tg cp
      replace BO : Hid (At W15 ko #[.slice (some ⟨gA, 0, none⟩) (L.length + 6) cA, .slice rb L.length rk, .int .i64 L.length]) := Hid.mk (At.undT BO.out G1 BO.out.1)
      replace hT : Hid (LtIn lo W15 (.slice (some ⟨gA, 0, none⟩) (L.length + 6) cA) (.slice rb L.length rk) Z' 6) := Hid.mk (hT.out.below G1)
      replace hB : Hid (Below w.heap.size w W15) := Hid.mk (hB.out.trans (G1.mono hB.out.size))
      replace hX := Hid.mk (hX.out.gr G1)
      clear G1
      clear hT BO hS hok' hsl'
      go_upto_region 23 with fail
      go_wp2_with fail
      refine (imageT_any a L.length cap W15).mono ?_
      rintro x W16 ⟨rfl, G1⟩
      replace G1 := G1.below
      replace hX := Hid.mk (hX.out.gr G1)
      replace hB : Hid (Below w.heap.size w W16) := Hid.mk (hB.out.trans (G1.mono hB.out.size))
      clear G1
      go_wp2_with fail
      refine (dNew_any L a cap _ _ _ W16 (hL.out.below hB.out) hok.out.ok hok.out.sl hlen).mono ?_
      rintro x W17 ⟨dp, Sd, tg, cp, rfl, hD, hRel, hSd, G1⟩
      replace hD := Hid.mk hD
      replace hRel := Hid.mk hRel
      replace hX := Hid.mk (hX.out.gr G1)
      replace hB : Hid (Below w.heap.size w W17) := Hid.mk (hB.out.trans (G1.mono hB.out.size))
      clear G1 hSd
      go_upto_region 24 with fail
      refine wp_world (fun W => At W W17.heap.size #[.pointer (some ⟨ax, 0, none⟩), .pointer (some ⟨dp, 0, none⟩)] ∧ Gr W17 W) ⟨At.new W17 _ _, (Gr.refl _).alloc _⟩ ?_
      rintro W18 ⟨BP, G1⟩
      replace G1 := G1.below
      replace hX := Hid.mk (hX.out.gr G1)
      replace hD := Hid.mk (hD.out.gr G1)
      replace hB : Hid (Below w.heap.size w W18) := Hid.mk (hB.out.trans (G1.mono hB.out.size))
      replace BP := Hid.mk BP
      clear G1
      generalize W17.heap.size = kp at *
      have p1 : W18.cell? ⟨kp, 1, none⟩ = some (.pointer (some ⟨dp, 0, none⟩)) := BP.out.2.1 1
      generalize rgB L L.length = bb at *
      have htl := tags_gran (rgT L L.length)
      have hll := tagsL_len (rgT L L.length) 4096
      have hcl := Hid.mk (dTags_any Sd dp bb (rgT L L.length) tg cp W18 hD.out hRel.out)
      generalize rgT L L.length = tt at *
      generalize tagsL tt 4096 = TL at *
      go_wp2_with fail
      refine hcl.out.mono ?_
      rintro x W19 ⟨v, rfl, hU, G1⟩
      clear p1 hcl
      obtain ⟨ta, tc, rfl⟩ := own_sl hU
      replace hX := Hid.mk (hX.out.gr G1)
      replace hD := Hid.mk (hD.out.gr G1)
      replace hB : Hid (Below w.heap.size w W19) := Hid.mk (hB.out.trans (G1.mono hB.out.size))
      replace BP := Hid.mk (At.undT BP.out G1 BP.out.1)
      replace hU := Hid.mk hU
      clear G1
      replace htl := Hid.mk htl
      go_upto_region 26 with fail
      have U0 := hU
      have P0 := BP
      have X0 := hX
      have D0 := hD
      have B0 := hB
      clear hU BP hX hD hB wr
      generalize W18.heap.size = bu at *
      go_loopw [14] (fun x wr => ∃ j : Nat, x = .int .i64 j ∧ j ≤ TL.length ∧ Hid (At wr kp #[.pointer (some ⟨ax, 0, none⟩), .pointer (some ⟨dp, 0, none⟩)]) ∧ Hid (TgIn Sx wr ax bb tt) ∧ Hid (DIn Sd wr dp bb tg cp) ∧ Hid (UOwn wr bu (.slice ta TL.length tc) TL) ∧ Hid (Below w.heap.size w wr)) (fun x _ => TL.length - (intOf x).toNat)
      case atStart => exact ⟨0, rfl, Nat.zero_le _, P0, X0, D0, U0, B0⟩
      case round =>
        clear U0 P0 X0 D0 B0
        obtain ⟨j, rfl, hj, BP, hX, hD, hU, hB⟩ := hrel
        by_cases hjl : j < TL.length
        · have hj1 : (j : Int) < (TL.length : Int) := Int.ofNat_lt.2 hjl
          have htg := htl.out TL[j] (List.getElem_mem hjl)
          have hle : lcE TL[j] = 0 := by unfold lcE; rw [if_pos htg.1]
          obtain ⟨gt, ct, e9, hg1, hg2⟩ := World.ownsRow.form hU.out (by omega)
          have e9a : ta = some ⟨gt, 0, none⟩ := by injection e9
          subst e9a
          clear e9
          have hcel : ∀ W, Below wr.heap.size wr W → W.cell? ⟨gt, j, none⟩ = some (.int .u64 (TL[j] : Int)) := fun W q => own_cell (own_below hU.out q) rfl j _ (by rw [List.getElem?_map, List.getElem?_eq_getElem hjl]; rfl)
          have t0 := hcel wr (Below.refl _ _)
          have hcl := Hid.mk (tgLoadCap_any Sx ax TL[j] bb tt wr hX.out (by omega))
          have hcd := Hid.mk (fun W (q : Below wr.heap.size wr W) => dLoadCap_any Sd dp TL[j] bb tg cp W (hD.out.gr q))
          simp only [dlV_eq hRel.out, hle] at hcl hcd
          generalize lcV bb tt TL[j] = vv at *
          unfold Vl.agg at hcl hcd
          go_wp2_with fail
          refine hcl.out.mono ?_
          rintro x V1 ⟨rfl, G1⟩
          clear t0 hcl
          go_upto_region 29 with fail
          refine wp_world (fun W => At W V1.heap.size #[.bool vv.g, .int .u64 vv.n, .int .u64 vv.c.b, .int .u64 vv.c.e, .int .u64 vv.c.c, .int .u8 vv.c.p, .int .i64 vv.c.s] ∧ Gr V1 W) ⟨At.new V1 _ _, (Gr.refl _).alloc _⟩ ?_
          rintro V2 ⟨BV, G2⟩
          have K2 : Below wr.heap.size wr V2 := G1.trans (G2.below.mono G1.size)
          have hcd2 := Hid.mk (fun W (q : Below V2.heap.size V2 W) => hcd.out W (K2.trans (q.mono K2.size)))
          have KS : Hid (∀ W, Below V2.heap.size V2 W → W.cell? ⟨kp, 1, none⟩ = some (.pointer (some ⟨dp, 0, none⟩)) ∧ W.cell? ⟨gt, j, none⟩ = some (.int .u64 (TL[j] : Int))) := Hid.mk (fun W q => ⟨(At.undT BP.out (K2.trans (q.mono K2.size)) BP.out.1).2.1 1, hcel W (K2.trans (q.mono K2.size))⟩)
          clear hcel hcd
          replace BV := Hid.mk BV
          generalize V1.heap.size = kv at *
          clear G2 G1
          replace K2 := Hid.mk K2
          have d1 : Below V2.heap.size V2 V2.drew := (Below.refl _ _).drew
          refine wp_region_held_drew (S := (fun W => W.cell? ⟨kp, 1, none⟩ = some (.pointer (some ⟨dp, 0, none⟩)) ∧ W.cell? ⟨gt, j, none⟩ = some (.int .u64 (TL[j] : Int)))) (by kernel_rfl) (KS.out _ d1) (fun hHeld => ?_)
          refine wpAnyH_take (i := 0) (oi := { dst := some 101, op := Op.fieldAddr 49 (Operand.tmp 12) 1, type := 0, pos := "law.go:226", after := #[], guard := none }) (v := ?_) rfl (by kernel_rfl) (by kernel_rfl) (by kernel_rfl) (fun _ _ _ h => h) (Or.inl ⟨by rfl, ?_⟩) (by assumption) ?_
          rotate_left
          · intro w hSw; (try dsimp only at hSw); go_simp; first | done | with_reducible rfl
          try simp only [Act.put, List.setIfInBounds_toArray, List.set_cons_zero, List.set_cons_succ]
          refine wpAnyH_take (i := 1) (oi := { dst := some 102, op := Op.load 46 (Operand.tmp 101), type := 46, pos := "law.go:226", after := #[{ on := 0, ground := Ground.data }], guard := none }) (v := ?_) rfl (by kernel_rfl) (by kernel_rfl) (by kernel_rfl) (fun _ _ _ h => h) (Or.inl ⟨by rfl, ?_⟩) (by assumption) ?_
          rotate_left
          · intro w hSw; (try dsimp only at hSw); go_simp; first | done | with_reducible rfl
          try simp only [Act.put, List.setIfInBounds_toArray, List.set_cons_zero, List.set_cons_succ]
          refine wpAnyH_take (i := 2) (oi := { dst := some 103, op := Op.move (Operand.tmp 13), type := 50, pos := "law.go:226", after := #[], guard := none }) (v := ?_) rfl (by kernel_rfl) (by kernel_rfl) (by kernel_rfl) (fun _ _ _ h => h) (Or.inl ⟨by rfl, ?_⟩) (by assumption) ?_
          rotate_left
          · intro w hSw; (try dsimp only at hSw); go_simp; first | done | with_reducible rfl
          try simp only [Act.put, List.setIfInBounds_toArray, List.set_cons_zero, List.set_cons_succ]
          refine wpAnyH_take (i := 3) (oi := { dst := some 104, op := Op.move (Operand.tmp 14), type := 3, pos := "law.go:226", after := #[], guard := none }) (v := ?_) rfl (by kernel_rfl) (by kernel_rfl) (by kernel_rfl) (fun _ _ _ h => h) (Or.inl ⟨by rfl, ?_⟩) (by assumption) ?_
          rotate_left
          · intro w hSw; (try dsimp only at hSw); go_simp; first | done | with_reducible rfl
          try simp only [Act.put, List.setIfInBounds_toArray, List.set_cons_zero, List.set_cons_succ]
          refine wpAnyH_take (i := 4) (oi := { dst := some 105, op := Op.indexAddr 50 (Operand.tmp 103) (Operand.tmp 104), type := 0, pos := "law.go:226", after := #[{ on := 2, ground := Ground.data }, { on := 3, ground := Ground.data }], guard := none }) (v := ?_) rfl (by kernel_rfl) (by kernel_rfl) (by kernel_rfl) (fun _ _ _ h => h) (Or.inl ⟨by rfl, ?_⟩) (by assumption) ?_
          rotate_left
          · intro w hSw; (try dsimp only at hSw); go_simp; first | done | with_reducible rfl
          try simp only [Act.put, List.setIfInBounds_toArray, List.set_cons_zero, List.set_cons_succ]
          refine wpAnyH_take (i := 5) (oi := { dst := some 106, op := Op.load 37 (Operand.tmp 105), type := 37, pos := "law.go:226", after := #[{ on := 4, ground := Ground.data }], guard := none }) (v := ?_) rfl (by kernel_rfl) (by kernel_rfl) (by kernel_rfl) (fun _ _ _ h => h) (Or.inl ⟨by rfl, ?_⟩) (by assumption) ?_
          rotate_left
          · intro w hSw; (try dsimp only at hSw); go_simp; first | done | with_reducible rfl
          try simp only [Act.put, List.setIfInBounds_toArray, List.set_cons_zero, List.set_cons_succ]
          refine wpAnyH_ready (rs := [6, 10]) (by kernel_rfl) (by simp) ?_
          refine AllReadyH.cons (o := { dst := some 107, op := Op.call { callee := Callee.value (Operand.func 15), args := #[Operand.tmp 102, Operand.tmp 106], argTypes := #[46, 37] }, type := 57, pos := "law.go:226", after := #[{ on := 1, ground := Ground.data }, { on := 5, ground := Ground.data }], guard := none }) rfl (fun K hK => ?_) (AllReadyH.cons (o := { dst := some 17, op := Op.alloc 55, type := 0, pos := "law.go:226", after := #[], guard := none }) rfl (fun K hK => ?_) AllReadyH.nil)
          · skip
            go_simp
            go_wp2_with (go_at_call 15; refine (hcd2.out _ d1).mono ?_; rintro x V3 ⟨rfl, b3⟩)
            have d3 : Below V2.heap.size V2 V3 := d1.trans (b3.mono (by simp))
            refine hK.out _ _ (KS.out _ d3) (fun hHeld => ?_)
            clear hK K
            try simp only [Act.put, List.setIfInBounds_toArray, List.set_cons_zero, List.set_cons_succ]
            refine wpAnyH_take (i := 7) (oi := { dst := some 100, op := Op.move (Operand.tmp 107), type := 57, pos := "law.go:226", after := #[{ on := 6, ground := Ground.data }], guard := none }) (v := ?_) rfl (by kernel_rfl) (by kernel_rfl) (by kernel_rfl) (fun _ _ _ h => h) (Or.inl ⟨by rfl, ?_⟩) (by assumption) ?_
            rotate_left
            · intro w hSw; (try dsimp only at hSw); go_simp; first | done | with_reducible rfl
            try simp only [Act.put, List.setIfInBounds_toArray, List.set_cons_zero, List.set_cons_succ]
            refine wpAnyH_take (i := 8) (oi := { dst := some 108, op := Op.extract (Operand.tmp 100) 0, type := 55, pos := "law.go:226", after := #[{ on := 7, ground := Ground.data }], guard := none }) (v := ?_) rfl (by kernel_rfl) (by kernel_rfl) (by kernel_rfl) (fun _ _ _ h => h) (Or.inl ⟨by rfl, ?_⟩) (by assumption) ?_
            rotate_left
            · intro w hSw; (try dsimp only at hSw); go_simp; first | done | with_reducible rfl
            try simp only [Act.put, List.setIfInBounds_toArray, List.set_cons_zero, List.set_cons_succ]
            refine wpAnyH_take (i := 9) (oi := { dst := some 109, op := Op.extract (Operand.tmp 100) 1, type := 56, pos := "law.go:226", after := #[{ on := 7, ground := Ground.data }, { on := 11, ground := Ground.gcOnly Departure.lateStores }], guard := none }) (v := ?_) rfl (by kernel_rfl) (by kernel_rfl) (by kernel_rfl) (fun _ _ _ h => h) (Or.inl ⟨by rfl, ?_⟩) (by assumption) ?_
            rotate_left
            · intro w hSw; (try dsimp only at hSw); go_simp; first | done | with_reducible rfl
            try simp only [Act.put, List.setIfInBounds_toArray, List.set_cons_zero, List.set_cons_succ]
            refine wpAnyH_ready (rs := [10]) (by kernel_rfl) (by simp) ?_
            refine AllReadyH.cons (o := { dst := some 17, op := Op.alloc 55, type := 0, pos := "law.go:226", after := #[], guard := none }) rfl (fun K hK => ?_) AllReadyH.nil
            go_simp
            have d4 : Below V2.heap.size V2 (V3.alloc (.cells #[.bool false, .int .u64 0, .int .u64 0, .int .u64 0, .int .u64 0, .int .u8 0, .int .i64 0] 55)) := d3.alloc d3.size _
            refine hK.out _ _ (KS.out _ d4) (fun hHeld => ?_)
            clear hK K
            try simp only [Act.put, List.setIfInBounds_toArray, List.set_cons_zero, List.set_cons_succ]
            have BW0 : At (V3.alloc (.cells #[.bool false, .int .u64 0, .int .u64 0, .int .u64 0, .int .u64 0, .int .u8 0, .int .i64 0] 55)) V3.heap.size #[.bool false, .int .u64 0, .int .u64 0, .int .u64 0, .int .u64 0, .int .u8 0, .int .i64 0] := At.new V3 _ _
            have d5 : Below V2.heap.size V2 ((V3.alloc (.cells #[.bool false, .int .u64 0, .int .u64 0, .int .u64 0, .int .u64 0, .int .u8 0, .int .i64 0] 55)).setCells V3.heap.size 0 [Value.bool vv.g, .int .u64 vv.n, .int .u64 vv.c.b, .int .u64 vv.c.e, .int .u64 vv.c.c, .int .u8 vv.c.p, .int .i64 vv.c.s]) := d4.trans (Kp.below (kp_sets2 _ V3.heap.size [Value.bool vv.g, .int .u64 vv.n, .int .u64 vv.c.b, .int .u64 vv.c.e, .int .u64 vv.c.c, .int .u8 vv.c.p, .int .i64 vv.c.s] 0) d4.size (fun q e => by have := d3.size; omega))
            have BWn := Hid.mk (At.setAll (cs := [Value.bool false, .int .u64 0, .int .u64 0, .int .u64 0, .int .u64 0, .int .u8 0, .int .i64 0]) BW0 [Value.bool vv.g, .int .u64 vv.n, .int .u64 vv.c.b, .int .u64 vv.c.e, .int .u64 vv.c.c, .int .u8 vv.c.p, .int .i64 vv.c.s] rfl)
            have BVn := Hid.mk (At.undT BV.out d5 BV.out.1)
            refine wpAnyH_ready (rs := [11]) (by kernel_rfl) (by simp) ?_
            refine AllReadyH.cons (o := { dst := none, op := Op.store 55 (Operand.tmp 17) (Operand.tmp 108), type := 0, pos := "law.go:226", after := #[{ on := 10, ground := Ground.data }, { on := 8, ground := Ground.data }, { on := 6, ground := Ground.chain }, { on := 0, ground := Ground.phase }, { on := 1, ground := Ground.phase }, { on := 2, ground := Ground.phase }, { on := 3, ground := Ground.phase }, { on := 4, ground := Ground.phase }, { on := 5, ground := Ground.phase }, { on := 6, ground := Ground.phase }, { on := 7, ground := Ground.phase }, { on := 8, ground := Ground.phase }, { on := 9, ground := Ground.textOnly Departure.lateStores }, { on := 10, ground := Ground.phase }], guard := none }) rfl (fun K hK => ?_) AllReadyH.nil
            rw [if_pos (by rfl)]
            refine wp_store_mid _ _ _ rfl _ _ (List.toArray [Value.bool vv.g, .int .u64 vv.n, .int .u64 vv.c.b, .int .u64 vv.c.e, .int .u64 vv.c.c, .int .u8 vv.c.p, .int .i64 vv.c.s]) rfl rfl (At.there (cs := [Value.bool false, .int .u64 0, .int .u64 0, .int .u64 0, .int .u64 0, .int .u8 0, .int .i64 0]) BW0 0 7 (by simp)) (by kernel_rfl) (all_oneCell_toArray (by simp [Value.oneCell'])) ?_
            refine hK.out _ _ (KS.out _ (d5)) (fun hHeld => ?_)
            clear hK K
            try simp only [Act.put]
            refine wpAnyH_take (i := 12) (oi := { dst := some 18, op := Op.assign (Operand.tmp 109), type := 56, pos := "law.go:226", after := #[{ on := 9, ground := Ground.data }, { on := 11, ground := Ground.chain }, { on := 0, ground := Ground.phase }, { on := 1, ground := Ground.phase }, { on := 2, ground := Ground.phase }, { on := 3, ground := Ground.phase }, { on := 4, ground := Ground.phase }, { on := 5, ground := Ground.phase }, { on := 6, ground := Ground.phase }, { on := 7, ground := Ground.phase }, { on := 8, ground := Ground.phase }, { on := 9, ground := Ground.phase }, { on := 10, ground := Ground.phase }, { on := 11, ground := Ground.phase }], guard := none }) (v := ?_) rfl (by kernel_rfl) (by kernel_rfl) (by kernel_rfl) (fun _ _ _ h => h) (Or.inl ⟨by rfl, ?_⟩) (by assumption) ?_
            rotate_left
            · intro w hSw; (try dsimp only at hSw); go_simp; first | done | with_reducible rfl
            try simp only [Act.put, List.setIfInBounds_toArray, List.set_cons_zero, List.set_cons_succ]
            have nP := Hid.mk (At.undT BP.out (K2.out.trans (d5.mono K2.out.size)) BP.out.1)
            have nX := Hid.mk (hX.out.gr (K2.out.trans (d5.mono K2.out.size)))
            have nD := Hid.mk (hD.out.gr (K2.out.trans (d5.mono K2.out.size)))
            have nU := Hid.mk (UOwn.below hU.out (K2.out.trans (d5.mono K2.out.size)))
            have nB := Hid.mk (hB.out.trans (Below.mono (K2.out.trans (d5.mono K2.out.size)) hB.out.size))
            clear BP hX hD hU hB
            generalize World.setCells _ _ _ _ = V9 at *
            generalize V3.heap.size = kw at *
            clear BW0 d4 d5 d3 b3 d1
            refine wpAnyH_done (by kernel_rfl) ?_ _
            clear hHeld KS hcd2
            have r1 := BVn.out.range
            have r2 := BWn.out.range
            have heq := fun W => val_neq vv W
            go_upto_region 30 with fail
            refine wp_region_lit ?_
            refine wpList_plain rfl (fun K hK => ?_)
            refine wp_load_mid _ _ rfl _ 0 rfl [Value.bool vv.g, .int .u64 vv.n, .int .u64 vv.c.b, .int .u64 vv.c.e, .int .u64 vv.c.c, .int .u8 vv.c.p, .int .i64 vv.c.s] _ BVn.out.range Try.underlying55 rfl (by kernel_rfl) (hK _ _ ?_)
            clear hK K
            try simp only [Act.put, List.setIfInBounds_toArray, List.set_cons_zero, List.set_cons_succ]
            refine wpList_plain rfl (fun K hK => ?_)
            refine wp_load_mid _ _ rfl _ 0 rfl [Value.bool vv.g, .int .u64 vv.n, .int .u64 vv.c.b, .int .u64 vv.c.e, .int .u64 vv.c.c, .int .u8 vv.c.p, .int .i64 vv.c.s] _ BWn.out.range Try.underlying55 rfl (by kernel_rfl) (hK _ _ ?_)
            clear hK K
            try simp only [Act.put, List.setIfInBounds_toArray, List.set_cons_zero, List.set_cons_succ]
            refine wpList_plain rfl (fun K hK => ?_)
            go_simp
            with_reducible refine hK _ _ ?_
            clear hK K
            try simp only [Act.put, List.setIfInBounds_toArray, List.set_cons_zero, List.set_cons_succ]
            refine wpList_plain rfl (fun K hK => ?_)
            go_simp
            with_reducible refine hK _ _ ?_
            clear hK K
            try simp only [Act.put, List.setIfInBounds_toArray, List.set_cons_zero, List.set_cons_succ]
            refine BigFrame.wpList_want (by rfl) (fun K hK => ?_)
            go_simp
            with_reducible refine hK _ _ ?_
            clear hK K
            try simp only [Act.put, List.setIfInBounds_toArray, List.set_cons_zero, List.set_cons_succ]
            refine BigFrame.wpList_want (by rfl) (fun K hK => ?_)
            go_simp
            with_reducible refine hK _ _ ?_
            clear hK K
            try simp only [Act.put, List.setIfInBounds_toArray, List.set_cons_zero, List.set_cons_succ]
            refine wpList_plain rfl (fun K hK => ?_)
            go_simp
            with_reducible refine hK _ _ ?_
            clear hK K
            try simp only [Act.put, List.setIfInBounds_toArray, List.set_cons_zero, List.set_cons_succ]
            clear r1 r2 heq BVn BWn BV K2
            go_wp2_with fail
            refine ⟨⟨j + 1, ?_, hjl, nP, nX, nD, nU, nB⟩, ?_⟩
            · first | rfl | rw [next_wT3 hjl hll] | go_num
            · first | exact next_mT hjl | (rw [next_wT3 hjl hll]; exact next_mT hjl)
          · skip
            go_simp
            have d4 : Below V2.heap.size V2 (V2.drew.alloc (.cells #[.bool false, .int .u64 0, .int .u64 0, .int .u64 0, .int .u64 0, .int .u8 0, .int .i64 0] 55)) := d1.alloc (by simp) _
            refine hK.out _ _ (KS.out _ d4) (fun hHeld => ?_)
            clear hK K
            try simp only [Act.put, List.setIfInBounds_toArray, List.set_cons_zero, List.set_cons_succ]
            refine wpAnyH_ready (rs := [6]) (by kernel_rfl) (by simp) ?_
            refine AllReadyH.cons (o := { dst := some 107, op := Op.call { callee := Callee.value (Operand.func 15), args := #[Operand.tmp 102, Operand.tmp 106], argTypes := #[46, 37] }, type := 57, pos := "law.go:226", after := #[{ on := 1, ground := Ground.data }, { on := 5, ground := Ground.data }], guard := none }) rfl (fun K hK => ?_) AllReadyH.nil
            go_simp
            go_wp2_with (go_at_call 15; refine (hcd2.out _ d4).mono ?_; rintro x V3 ⟨rfl, b3⟩)
            have d3 : Below V2.heap.size V2 V3 := d4.trans (b3.mono (by simp))
            refine hK.out _ _ (KS.out _ d3) (fun hHeld => ?_)
            clear hK K
            try simp only [Act.put, List.setIfInBounds_toArray, List.set_cons_zero, List.set_cons_succ]
            refine wpAnyH_take (i := 7) (oi := { dst := some 100, op := Op.move (Operand.tmp 107), type := 57, pos := "law.go:226", after := #[{ on := 6, ground := Ground.data }], guard := none }) (v := ?_) rfl (by kernel_rfl) (by kernel_rfl) (by kernel_rfl) (fun _ _ _ h => h) (Or.inl ⟨by rfl, ?_⟩) (by assumption) ?_
            rotate_left
            · intro w hSw; (try dsimp only at hSw); go_simp; first | done | with_reducible rfl
            try simp only [Act.put, List.setIfInBounds_toArray, List.set_cons_zero, List.set_cons_succ]
            refine wpAnyH_take (i := 8) (oi := { dst := some 108, op := Op.extract (Operand.tmp 100) 0, type := 55, pos := "law.go:226", after := #[{ on := 7, ground := Ground.data }], guard := none }) (v := ?_) rfl (by kernel_rfl) (by kernel_rfl) (by kernel_rfl) (fun _ _ _ h => h) (Or.inl ⟨by rfl, ?_⟩) (by assumption) ?_
            rotate_left
            · intro w hSw; (try dsimp only at hSw); go_simp; first | done | with_reducible rfl
            try simp only [Act.put, List.setIfInBounds_toArray, List.set_cons_zero, List.set_cons_succ]
            refine wpAnyH_take (i := 9) (oi := { dst := some 109, op := Op.extract (Operand.tmp 100) 1, type := 56, pos := "law.go:226", after := #[{ on := 7, ground := Ground.data }, { on := 11, ground := Ground.gcOnly Departure.lateStores }], guard := none }) (v := ?_) rfl (by kernel_rfl) (by kernel_rfl) (by kernel_rfl) (fun _ _ _ h => h) (Or.inl ⟨by rfl, ?_⟩) (by assumption) ?_
            rotate_left
            · intro w hSw; (try dsimp only at hSw); go_simp; first | done | with_reducible rfl
            try simp only [Act.put, List.setIfInBounds_toArray, List.set_cons_zero, List.set_cons_succ]
            have BW0 : At V3 V2.heap.size #[.bool false, .int .u64 0, .int .u64 0, .int .u64 0, .int .u64 0, .int .u8 0, .int .i64 0] := At.undT (At.at_ V2.drew #[.bool false, .int .u64 0, .int .u64 0, .int .u64 0, .int .u64 0, .int .u8 0, .int .i64 0] 55 (by simp)) b3 (by simp)
            have d5 : Below V2.heap.size V2 (V3.setCells V2.heap.size 0 [Value.bool vv.g, .int .u64 vv.n, .int .u64 vv.c.b, .int .u64 vv.c.e, .int .u64 vv.c.c, .int .u8 vv.c.p, .int .i64 vv.c.s]) := d3.trans (Kp.below (kp_sets2 _ V2.heap.size [Value.bool vv.g, .int .u64 vv.n, .int .u64 vv.c.b, .int .u64 vv.c.e, .int .u64 vv.c.c, .int .u8 vv.c.p, .int .i64 vv.c.s] 0) d3.size (fun q e => by omega))
            have BWn := Hid.mk (At.setAll (cs := [Value.bool false, .int .u64 0, .int .u64 0, .int .u64 0, .int .u64 0, .int .u8 0, .int .i64 0]) BW0 [Value.bool vv.g, .int .u64 vv.n, .int .u64 vv.c.b, .int .u64 vv.c.e, .int .u64 vv.c.c, .int .u8 vv.c.p, .int .i64 vv.c.s] rfl)
            have BVn := Hid.mk (At.undT BV.out d5 BV.out.1)
            refine wpAnyH_ready (rs := [11]) (by kernel_rfl) (by simp) ?_
            refine AllReadyH.cons (o := { dst := none, op := Op.store 55 (Operand.tmp 17) (Operand.tmp 108), type := 0, pos := "law.go:226", after := #[{ on := 10, ground := Ground.data }, { on := 8, ground := Ground.data }, { on := 6, ground := Ground.chain }, { on := 0, ground := Ground.phase }, { on := 1, ground := Ground.phase }, { on := 2, ground := Ground.phase }, { on := 3, ground := Ground.phase }, { on := 4, ground := Ground.phase }, { on := 5, ground := Ground.phase }, { on := 6, ground := Ground.phase }, { on := 7, ground := Ground.phase }, { on := 8, ground := Ground.phase }, { on := 9, ground := Ground.textOnly Departure.lateStores }, { on := 10, ground := Ground.phase }], guard := none }) rfl (fun K hK => ?_) AllReadyH.nil
            rw [if_pos (by rfl)]
            refine wp_store_mid _ _ _ rfl _ _ (List.toArray [Value.bool vv.g, .int .u64 vv.n, .int .u64 vv.c.b, .int .u64 vv.c.e, .int .u64 vv.c.c, .int .u8 vv.c.p, .int .i64 vv.c.s]) rfl rfl (At.there (cs := [Value.bool false, .int .u64 0, .int .u64 0, .int .u64 0, .int .u64 0, .int .u8 0, .int .i64 0]) BW0 0 7 (by simp)) (by kernel_rfl) (all_oneCell_toArray (by simp [Value.oneCell'])) ?_
            refine hK.out _ _ (KS.out _ (d5)) (fun hHeld => ?_)
            clear hK K
            try simp only [Act.put]
            refine wpAnyH_take (i := 12) (oi := { dst := some 18, op := Op.assign (Operand.tmp 109), type := 56, pos := "law.go:226", after := #[{ on := 9, ground := Ground.data }, { on := 11, ground := Ground.chain }, { on := 0, ground := Ground.phase }, { on := 1, ground := Ground.phase }, { on := 2, ground := Ground.phase }, { on := 3, ground := Ground.phase }, { on := 4, ground := Ground.phase }, { on := 5, ground := Ground.phase }, { on := 6, ground := Ground.phase }, { on := 7, ground := Ground.phase }, { on := 8, ground := Ground.phase }, { on := 9, ground := Ground.phase }, { on := 10, ground := Ground.phase }, { on := 11, ground := Ground.phase }], guard := none }) (v := ?_) rfl (by kernel_rfl) (by kernel_rfl) (by kernel_rfl) (fun _ _ _ h => h) (Or.inl ⟨by rfl, ?_⟩) (by assumption) ?_
            rotate_left
            · intro w hSw; (try dsimp only at hSw); go_simp; first | done | with_reducible rfl
            try simp only [Act.put, List.setIfInBounds_toArray, List.set_cons_zero, List.set_cons_succ]
            have nP := Hid.mk (At.undT BP.out (K2.out.trans (d5.mono K2.out.size)) BP.out.1)
            have nX := Hid.mk (hX.out.gr (K2.out.trans (d5.mono K2.out.size)))
            have nD := Hid.mk (hD.out.gr (K2.out.trans (d5.mono K2.out.size)))
            have nU := Hid.mk (UOwn.below hU.out (K2.out.trans (d5.mono K2.out.size)))
            have nB := Hid.mk (hB.out.trans (Below.mono (K2.out.trans (d5.mono K2.out.size)) hB.out.size))
            clear BP hX hD hU hB
            generalize World.setCells _ _ _ _ = V9 at *
            generalize V2.heap.size = kw at *
            clear BW0 d4 d5 d3 b3 d1
            refine wpAnyH_done (by kernel_rfl) ?_ _
            clear hHeld KS hcd2
            have r1 := BVn.out.range
            have r2 := BWn.out.range
            have heq := fun W => val_neq vv W
            go_upto_region 30 with fail
            refine wp_region_lit ?_
            refine wpList_plain rfl (fun K hK => ?_)
            refine wp_load_mid _ _ rfl _ 0 rfl [Value.bool vv.g, .int .u64 vv.n, .int .u64 vv.c.b, .int .u64 vv.c.e, .int .u64 vv.c.c, .int .u8 vv.c.p, .int .i64 vv.c.s] _ BVn.out.range Try.underlying55 rfl (by kernel_rfl) (hK _ _ ?_)
            clear hK K
            try simp only [Act.put, List.setIfInBounds_toArray, List.set_cons_zero, List.set_cons_succ]
            refine wpList_plain rfl (fun K hK => ?_)
            refine wp_load_mid _ _ rfl _ 0 rfl [Value.bool vv.g, .int .u64 vv.n, .int .u64 vv.c.b, .int .u64 vv.c.e, .int .u64 vv.c.c, .int .u8 vv.c.p, .int .i64 vv.c.s] _ BWn.out.range Try.underlying55 rfl (by kernel_rfl) (hK _ _ ?_)
            clear hK K
            try simp only [Act.put, List.setIfInBounds_toArray, List.set_cons_zero, List.set_cons_succ]
            refine wpList_plain rfl (fun K hK => ?_)
            go_simp
            with_reducible refine hK _ _ ?_
            clear hK K
            try simp only [Act.put, List.setIfInBounds_toArray, List.set_cons_zero, List.set_cons_succ]
            refine wpList_plain rfl (fun K hK => ?_)
            go_simp
            with_reducible refine hK _ _ ?_
            clear hK K
            try simp only [Act.put, List.setIfInBounds_toArray, List.set_cons_zero, List.set_cons_succ]
            refine BigFrame.wpList_want (by rfl) (fun K hK => ?_)
            go_simp
            with_reducible refine hK _ _ ?_
            clear hK K
            try simp only [Act.put, List.setIfInBounds_toArray, List.set_cons_zero, List.set_cons_succ]
            refine BigFrame.wpList_want (by rfl) (fun K hK => ?_)
            go_simp
            with_reducible refine hK _ _ ?_
            clear hK K
            try simp only [Act.put, List.setIfInBounds_toArray, List.set_cons_zero, List.set_cons_succ]
            refine wpList_plain rfl (fun K hK => ?_)
            go_simp
            with_reducible refine hK _ _ ?_
            clear hK K
            try simp only [Act.put, List.setIfInBounds_toArray, List.set_cons_zero, List.set_cons_succ]
            clear r1 r2 heq BVn BWn BV K2
            go_wp2_with fail
            refine ⟨⟨j + 1, ?_, hjl, nP, nX, nD, nU, nB⟩, ?_⟩
            · first | rfl | rw [next_wT3 hjl hll] | go_num
            · first | exact next_mT hjl | (rw [next_wT3 hjl hll]; exact next_mT hjl)
        · have hj1 : ¬ (j : Int) < (TL.length : Int) := fun q => hjl (Int.ofNat_lt.1 q)
          have p0 : wr.cell? ⟨kp, 0, none⟩ = some (.pointer (some ⟨ax, 0, none⟩)) := BP.out.2.1 0
          have p1 : wr.cell? ⟨kp, 1, none⟩ = some (.pointer (some ⟨dp, 0, none⟩)) := BP.out.2.1 1
          have hend := Hid.mk (T.ends_any Sx Sd ax dp bb tt tg cp wr hX.out hD.out hRel.out)
          go_wp2_with fail
          refine hend.out.mono ?_
          rintro x V1 ⟨rfl, G1⟩
          replace hB := Hid.mk (hB.out.trans (G1.mono hB.out.size))
          clear p0 p1 G1 hend
          go_wp2_with fail
          go_ret
          exact ⟨rfl, hB.out⟩
end T
end Go.Proofs.Ytikbbolgobhmiaa
