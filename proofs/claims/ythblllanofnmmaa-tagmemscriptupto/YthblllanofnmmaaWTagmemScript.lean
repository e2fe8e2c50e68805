import Derived.Test.YthblllanofnmmaaP48
import Derived.Test.YthblllanofnmmaaTRegs
import Derived.Deep.RegionHeld3
import Derived.BigFrame
/-
  Stage 6, tagmem: TagmemScript.
-/
namespace Go.Proofs.Ythblllanofnmmaa
namespace U
open Go.RowKit
open B
open T (Sep Ob Kp Mf TgIn DIn Rel Cp Vl UOwn tgOb boxOb)

theorem twelveU {α : Type} {vals : α → List Value} {w : World} {la : Option Addr} {L : List α} (h : T.EIn 12 vals w la L) (i : Nat) (hi : i < L.length) : ∃ b off : Nat, la = some ⟨b, off, none⟩ ∧ b < w.heap.size ∧ ∀ W, Below w.heap.size w W → ∀ j v, (vals L[i])[j]? = some v → W.cell? ⟨b, off + i * 12 + j, none⟩ = some v := by
  obtain ⟨b, off, h1, h2, h3⟩ := h i hi
  exact ⟨b, off, h1, h2, fun W q j v e => (cell_blk (q.block b h2) _).trans (h3 j v e)⟩
theorem imageU_any (a : Option Addr) (n c : Nat) (w : World) : Calls Try.prog 6 #[.slice a n c] w fun x w' => x = .returned (.agg #[.slice a n c, .slice none 0 0, .slice none 0 0, .int .i64 0]) ∧ Gr w w' := by
  go_enter Try.func6, Try.ntmps6
  go_wp2_with fail
  simp [bodyPost, results, Try.results6, go_sem]
  exact (Gr.refl w).alloc _
set_option maxRecDepth 100000 in
set_option maxHeartbeats 8000000 in
theorem walk_TagmemScript (R1 R2 : List T.Rg) (L : List T.Po) (r1 r2 la : Option Addr) (k1 k2 lc : Nat) (w : World) (h1 : T.RgIn w r1 R1) (ok1 : T.RgsOk R1) (h2 : T.RgIn w r2 R2) (ok2 : T.RgsOk R2) (hL : (∀ y ∈ L, y.Ok) ∧ T.EIn 12 T.Po.vals w la L) (hl : L.length ≤ 500000) :
    Calls Try.prog 3 #[.slice r1 R1.length k1, .slice r2 R2.length k2, .slice la L.length lc] w fun r w' => r = .returned (.bool true) ∧ Below w.heap.size w w' := by
  replace h1 := Hd.mk h1
  replace h2 := Hd.mk h2
  replace ok1 := Hd.mk ok1
  replace ok2 := Hd.mk ok2
  have e1 := Hd.mk (fun W (q : Below w.heap.size w W) => T.dNew_any R1 r1 k1 (.slice none 0 0) (.slice none 0 0) (.int .i64 0) W (h1.out.below q) ok1.out.ok ok1.out.sl ok1.out.len)
  have e2 := Hd.mk (fun W (q : Below w.heap.size w W) => T.dNew_any R2 r2 k2 (.slice none 0 0) (.slice none 0 0) (.int .i64 0) W (h2.out.below q) ok2.out.ok ok2.out.sl ok2.out.len)
  replace hL := Hd.mk hL
  have s := Hd.mk (Sep.nil w.heap.size w)
  go_enter Try.func3, Try.ntmps3
  go_wp2_with fail
  refine (T.alive_any w).mono ?_
  rintro r w1 ⟨rfl, B1⟩
  replace s := Hd.mk (s.out.gr B1)
  have hB : Hd (Below w.heap.size w w1) := Hd.mk B1
  clear B1
  go_wp2_with fail
  refine (imageU_any r1 R1.length k1 w1).mono ?_
  rintro r w2i ⟨rfl, G1⟩
  replace G1 := G1.below
  replace s := Hd.mk (s.out.gr G1)
  replace hB : Hd (Below w.heap.size w w2i) := Hd.mk (hB.out.trans (G1.mono hB.out.size))
  clear G1
  have hcl := Hd.mk (T.newTagged_any R1 r1 k1 (.slice none 0 0) (.slice none 0 0) (.int .i64 0) w2i (h1.out.below hB.out) ok1.out.ok ok1.out.len)
  generalize T.rgB R1 R1.length = b1 at *
  generalize T.rgT R1 R1.length = t1 at *
  go_wp2_with fail
  refine hcl.out.mono ?_
  rintro r w2 ⟨X1, rfl, hX, hS, G1⟩
  replace s := Hd.mk (s.out.add (tgOb X1 (w2i.heap.size + 1) b1 t1) hX (fun k q => Nat.le_of_lt (hS k q)) G1 hB.out.size)
  replace hB : Hd (Below w.heap.size w w2) := Hd.mk (hB.out.trans (G1.mono hB.out.size))
  clear G1 hX hS hcl
  generalize w2i.heap.size + 1 = a1 at *
  go_wp2_with fail
  refine (imageU_any r2 R2.length k2 w2).mono ?_
  rintro r w3i ⟨rfl, G1⟩
  replace G1 := G1.below
  replace s := Hd.mk (s.out.gr G1)
  replace hB : Hd (Below w.heap.size w w3i) := Hd.mk (hB.out.trans (G1.mono hB.out.size))
  clear G1
  have hcl := Hd.mk (T.newTagged_any R2 r2 k2 (.slice none 0 0) (.slice none 0 0) (.int .i64 0) w3i (h2.out.below hB.out) ok2.out.ok ok2.out.len)
  generalize T.rgB R2 R2.length = b2 at *
  generalize T.rgT R2 R2.length = t2 at *
  go_wp2_with fail
  refine hcl.out.mono ?_
  rintro r w3 ⟨X2, rfl, hX, hS, G1⟩
  replace s := Hd.mk (s.out.add (tgOb X2 (w3i.heap.size + 1) b2 t2) hX (fun k q => Nat.le_of_lt (hS k q)) G1 hB.out.size)
  replace hB : Hd (Below w.heap.size w w3) := Hd.mk (hB.out.trans (G1.mono hB.out.size))
  clear G1 hX hS hcl
  generalize w3i.heap.size + 1 = a2 at *
  go_wp2_with fail
  refine (imageU_any r1 R1.length k1 w3).mono ?_
  rintro r w4i ⟨rfl, G1⟩
  replace G1 := G1.below
  replace s := Hd.mk (s.out.gr G1)
  replace hB : Hd (Below w.heap.size w w4i) := Hd.mk (hB.out.trans (G1.mono hB.out.size))
  clear G1
  have hcl := Hd.mk (e1.out w4i hB.out)
  go_wp2_with fail
  refine hcl.out.mono ?_
  rintro r w4 ⟨d1, D1, g1, c1, rfl, hX, rel1, hS, G1⟩
  replace rel1 := Hd.mk rel1
  replace s := Hd.mk (s.out.add (dOb D1 d1 b1 g1 c1) hX (fun k q => Nat.le_of_lt (hS k q)) G1 hB.out.size)
  replace hB : Hd (Below w.heap.size w w4) := Hd.mk (hB.out.trans (G1.mono hB.out.size))
  clear G1 hX hS hcl e1
  go_wp2_with fail
  refine (imageU_any r2 R2.length k2 w4).mono ?_
  rintro r w5i ⟨rfl, G1⟩
  replace G1 := G1.below
  replace s := Hd.mk (s.out.gr G1)
  replace hB : Hd (Below w.heap.size w w5i) := Hd.mk (hB.out.trans (G1.mono hB.out.size))
  clear G1
  have hcl := Hd.mk (e2.out w5i hB.out)
  go_wp2_with fail
  refine hcl.out.mono ?_
  rintro r w5 ⟨d2, D2, g2, c2, rfl, hX, rel2, hS, G1⟩
  replace rel2 := Hd.mk rel2
  replace s := Hd.mk (s.out.add (dOb D2 d2 b2 g2 c2) hX (fun k q => Nat.le_of_lt (hS k q)) G1 hB.out.size)
  replace hB : Hd (Below w.heap.size w w5) := Hd.mk (hB.out.trans (G1.mono hB.out.size))
  clear G1 hX hS hcl e2
  go_upto_region 7 with fail
  refine wp_world (fun W => At W w5.heap.size #[.pointer (some ⟨a1, 0, none⟩), .pointer (some ⟨d1, 0, none⟩), .pointer (some ⟨a2, 0, none⟩), .pointer (some ⟨d2, 0, none⟩)] ∧ Gr w5 W) ⟨At.new w5 _ _, (Gr.refl _).alloc _⟩ ?_
  rintro w6 ⟨hX, G1⟩
  replace G1 := G1.below
  replace s := Hd.mk (s.out.add (boxOb w5.heap.size #[.pointer (some ⟨a1, 0, none⟩), .pointer (some ⟨d1, 0, none⟩), .pointer (some ⟨a2, 0, none⟩), .pointer (some ⟨d2, 0, none⟩)]) hX (fun k q => by have : k = w5.heap.size := q; omega) G1 hB.out.size)
  replace hB : Hd (Below w.heap.size w w6) := Hd.mk (hB.out.trans (G1.mono hB.out.size))
  clear G1 hX
  generalize w5.heap.size = kl at *
  go_upto_region 8 with fail
  have hX := Hd.mk (BoIn.start w w6 40 hB.out.size)
  refine wp_world (fun W => BoIn (fun k => k = w6.heap.size) w.heap.size w6.heap.size 0 W ∧ Gr w6 W) ⟨hX.out, (Gr.refl _).alloc _⟩ ?_
  clear hX
  rintro w7 ⟨hX, G1⟩
  replace G1 := G1.below
  replace s := Hd.mk (s.out.add (bkOb (fun k => k = w6.heap.size) w.heap.size w6.heap.size 0) hX (fun k q => by have : k = w6.heap.size := q; omega) G1 hB.out.size)
  replace hB : Hd (Below w.heap.size w w7) := Hd.mk (hB.out.trans (G1.mono hB.out.size))
  clear G1 hX
  have hS0 : Hd (Ss w w7 a1 a2 d1 d2 kl w6.heap.size 0) := Hd.mk ⟨⟨b1, b2, t1, t2, g1, c1, g2, c2, D1, X1, D2, X2, _, sep_perm s.out (perm6 _ _ _ _ _ _), rel1.out, rel2.out⟩, hB.out⟩
  generalize w6.heap.size = kb at *
  clear s hB rel1 rel2
  go_upto_region 9 with fail
  go_loopw [12] (fun v wr => ∃ (i K : Nat), v = .int .i64 i ∧ i ≤ L.length ∧ K ≤ 2 * i ∧ Hd (Ss w wr a1 a2 d1 d2 kl kb K)) (fun v _ => L.length - (intOf v).toNat)
  case atStart => exact ⟨0, 0, rfl, Nat.zero_le _, Nat.zero_le _, hS0⟩
  case round =>
    clear hS0
    obtain ⟨i, K, rfl, hi, hKi, hS⟩ := hrel
    by_cases hlt : i < L.length
    · have jl : (i : Int) < (L.length : Int) := Int.ofNat_lt.2 hlt
      have hok := hL.out.1 _ (List.getElem_mem hlt)
      obtain ⟨bb, off, rfl, hbw, hcells⟩ := twelveU hL.out.2 i hlt
      have hK2 : K + 2 ≤ 1048575 := by omega
      have hK3 : K + 2 ≤ 2 * (i + 1) := by omega
      generalize L[i] = x at *
      have hM := T.pk_lt x.m 2 (by omega)
      have hpk := Hd.mk (fun W => T.pick_any x.m 2 W hok.rm (by omega) (by omega))
      generalize T.pk x.m 2 = M at *
      have hMi : (M : Int) < 2 := by omega
      have hst := Hd.mk (fun W (q : Ss w W a1 a2 d1 d2 kl kb K) => q.step M hM x hok hK2)
      have KS : Hd (∀ W K', Ss w W a1 a2 d1 d2 kl kb K' → W.rangeAt kl (M * 2) [.pointer (some ⟨selU M a1 a2, 0, none⟩), .pointer (some ⟨selU M d1 d2, 0, none⟩)] ∧ W.rangeAt bb (off + i * 12) (T.Po.vals x) ∧ W.cell? ⟨bb, off + i * 12, none⟩ = some (.int .i64 x.m)) := Hd.mk (fun W K' q => ⟨q.pair M hM, hcells W q.be, hcells W q.be 0 _ rfl⟩)
      have KS := Hd.mk (fun W {K'} q => KS.out W K' q)
      replace hok := Hd.mk hok
      clear hbw hcells hKi hK2
      have hS0 : Hd (Ss w wr.drew a1 a2 d1 d2 kl kb K) := Hd.mk (hS.out.gr (Below.drew (Below.refl _ _)))
      clear hS
      have hS := hS0
      clear hS0
      replace hK3 := Hd.mk hK3
      go_upto_region 11 with fail
      refine wp_region_held_drew (S := (fun W => W.rangeAt kl (M * 2) [.pointer (some ⟨selU M a1 a2, 0, none⟩), .pointer (some ⟨selU M d1 d2, 0, none⟩)] ∧ W.rangeAt bb (off + i * 12) (T.Po.vals x) ∧ W.cell? ⟨bb, off + i * 12, none⟩ = some (.int .i64 x.m))) (by kernel_rfl) (KS.out _ hS.out) (fun hHeld => ?_)
      refine wpAnyH_take (i := 0) (oi := { dst := some 53, op := Op.move (Operand.tmp 10), type := 36, pos := "law.go:245", after := #[], guard := none }) (v := ?_) rfl (by kernel_rfl) (by kernel_rfl) (by kernel_rfl) (fun _ _ _ h => h) (Or.inl ⟨by rfl, ?_⟩) (by assumption) ?_
      rotate_left
      · intro w hSw; (try dsimp only at hSw); go_simp; first | done | with_reducible rfl
      try simp only [Act.put, List.setIfInBounds_toArray, List.set_cons_zero, List.set_cons_succ]
      refine wpAnyH_take (i := 1) (oi := { dst := some 54, op := Op.move (Operand.tmp 2), type := 23, pos := "law.go:245", after := #[], guard := none }) (v := ?_) rfl (by kernel_rfl) (by kernel_rfl) (by kernel_rfl) (fun _ _ _ h => h) (Or.inl ⟨by rfl, ?_⟩) (by assumption) ?_
      rotate_left
      · intro w hSw; (try dsimp only at hSw); go_simp; first | done | with_reducible rfl
      try simp only [Act.put, List.setIfInBounds_toArray, List.set_cons_zero, List.set_cons_succ]
      refine wpAnyH_take (i := 2) (oi := { dst := some 55, op := Op.move (Operand.tmp 12), type := 3, pos := "law.go:245", after := #[], guard := none }) (v := ?_) rfl (by kernel_rfl) (by kernel_rfl) (by kernel_rfl) (fun _ _ _ h => h) (Or.inl ⟨by rfl, ?_⟩) (by assumption) ?_
      rotate_left
      · intro w hSw; (try dsimp only at hSw); go_simp; first | done | with_reducible rfl
      try simp only [Act.put, List.setIfInBounds_toArray, List.set_cons_zero, List.set_cons_succ]
      refine wpAnyH_take (i := 3) (oi := { dst := some 56, op := Op.indexAddr 23 (Operand.tmp 54) (Operand.tmp 55), type := 0, pos := "law.go:245", after := #[{ on := 1, ground := Ground.data }, { on := 2, ground := Ground.data }], guard := none }) (v := ?_) rfl (by kernel_rfl) (by kernel_rfl) (by kernel_rfl) (fun _ _ _ h => h) (Or.inl ⟨by rfl, ?_⟩) (by assumption) ?_
      rotate_left
      · intro w hSw; (try dsimp only at hSw); go_simp; first | done | with_reducible rfl
      try simp only [Act.put, List.setIfInBounds_toArray, List.set_cons_zero, List.set_cons_succ]
      refine wpAnyH_take (i := 4) (oi := { dst := some 57, op := Op.fieldAddr 49 (Operand.tmp 56) 0, type := 0, pos := "law.go:245", after := #[{ on := 3, ground := Ground.data }], guard := none }) (v := ?_) rfl (by kernel_rfl) (by kernel_rfl) (by kernel_rfl) (fun _ _ _ h => h) (Or.inl ⟨by rfl, ?_⟩) (by assumption) ?_
      rotate_left
      · intro w hSw; (try dsimp only at hSw); go_simp; first | done | with_reducible rfl
      try simp only [Act.put, List.setIfInBounds_toArray, List.set_cons_zero, List.set_cons_succ]
      refine wpAnyH_take (i := 5) (oi := { dst := some 58, op := Op.load 3 (Operand.tmp 57), type := 3, pos := "law.go:245", after := #[{ on := 4, ground := Ground.data }], guard := none }) (v := ?_) rfl (by kernel_rfl) (by kernel_rfl) (by kernel_rfl) (fun _ _ _ h => h) (Or.inl ⟨by rfl, ?_⟩) (by assumption) ?_
      rotate_left
      · intro w hSw; (try dsimp only at hSw); go_simp; first | done | with_reducible rfl
      try simp only [Act.put, List.setIfInBounds_toArray, List.set_cons_zero, List.set_cons_succ]
      refine wpAnyH_take (i := 9) (oi := { dst := some 62, op := Op.move (Operand.tmp 2), type := 23, pos := "law.go:245", after := #[], guard := none }) (v := ?_) rfl (by kernel_rfl) (by kernel_rfl) (by kernel_rfl) (fun _ _ _ h => h) (Or.inl ⟨by rfl, ?_⟩) (by assumption) ?_
      rotate_left
      · intro w hSw; (try dsimp only at hSw); go_simp; first | done | with_reducible rfl
      try simp only [Act.put, List.setIfInBounds_toArray, List.set_cons_zero, List.set_cons_succ]
      refine wpAnyH_take (i := 10) (oi := { dst := some 63, op := Op.move (Operand.tmp 12), type := 3, pos := "law.go:245", after := #[], guard := none }) (v := ?_) rfl (by kernel_rfl) (by kernel_rfl) (by kernel_rfl) (fun _ _ _ h => h) (Or.inl ⟨by rfl, ?_⟩) (by assumption) ?_
      rotate_left
      · intro w hSw; (try dsimp only at hSw); go_simp; first | done | with_reducible rfl
      try simp only [Act.put, List.setIfInBounds_toArray, List.set_cons_zero, List.set_cons_succ]
      refine wpAnyH_take (i := 11) (oi := { dst := some 64, op := Op.indexAddr 23 (Operand.tmp 62) (Operand.tmp 63), type := 0, pos := "law.go:245", after := #[{ on := 9, ground := Ground.data }, { on := 10, ground := Ground.data }], guard := none }) (v := ?_) rfl (by kernel_rfl) (by kernel_rfl) (by kernel_rfl) (fun _ _ _ h => h) (Or.inl ⟨by rfl, ?_⟩) (by assumption) ?_
      rotate_left
      · intro w hSw; (try dsimp only at hSw); go_simp; first | done | with_reducible rfl
      try simp only [Act.put, List.setIfInBounds_toArray, List.set_cons_zero, List.set_cons_succ]
      refine wpAnyH_take (i := 12) (oi := { dst := some 65, op := Op.load 49 (Operand.tmp 64), type := 49, pos := "law.go:245", after := #[{ on := 11, ground := Ground.data }], guard := none }) (v := _) rfl (by kernel_rfl) (by kernel_rfl) (by kernel_rfl) (fun _ _ _ h => h) (yieldsIf_load_mid (by rfl) _ _ rfl _ _ rfl _ _ (fun _ h => h.2.1) Try.underlying49 rfl (by kernel_rfl)) (by assumption) ?_
      try simp only [Act.put, List.setIfInBounds_toArray, List.set_cons_zero, List.set_cons_succ]
      refine wpAnyH_take (i := 13) (oi := { dst := some 66, op := Op.move (Operand.tmp 11), type := 37, pos := "law.go:245", after := #[], guard := none }) (v := ?_) rfl (by kernel_rfl) (by kernel_rfl) (by kernel_rfl) (fun _ _ _ h => h) (Or.inl ⟨by rfl, ?_⟩) (by assumption) ?_
      rotate_left
      · intro w hSw; (try dsimp only at hSw); go_simp; first | done | with_reducible rfl
      try simp only [Act.put, List.setIfInBounds_toArray, List.set_cons_zero, List.set_cons_succ]
      refine wpAnyH_ready (rs := [6]) (by kernel_rfl) (by simp) ?_
      refine AllReadyH.cons (o := { dst := some 59, op := Op.call { callee := Callee.value (Operand.func 8), args := #[Operand.tmp 58, Operand.const (Value.int IntKind.i64 2)], argTypes := #[3, 3] }, type := 3, pos := "law.go:245", after := #[{ on := 5, ground := Ground.data }], guard := none }) rfl (fun K hK => ?_) AllReadyH.nil
      go_simp
      go_wp2_with (refine (hpk.out _).mono ?_; rintro r V1 ⟨rfl, e1⟩; subst e1; clear hHeld)
      refine hK.out _ _ (KS.out _ hS.out) (fun hHeld => ?_)
      clear hK K
      try simp only [Act.put, List.setIfInBounds_toArray, List.set_cons_zero, List.set_cons_succ]
      refine wpAnyH_take (i := 7) (oi := { dst := some 60, op := Op.indexAddr 36 (Operand.tmp 53) (Operand.tmp 59), type := 0, pos := "law.go:245", after := #[{ on := 0, ground := Ground.data }, { on := 6, ground := Ground.data }], guard := none }) (v := ?_) rfl (by kernel_rfl) (by kernel_rfl) (by kernel_rfl) (fun _ _ _ h => h) (Or.inl ⟨by rfl, ?_⟩) (by assumption) ?_
      rotate_left
      · intro w hSw; (try dsimp only at hSw); go_simp; first | done | with_reducible rfl
      try simp only [Act.put, List.setIfInBounds_toArray, List.set_cons_zero, List.set_cons_succ]
      refine wpAnyH_take (i := 8) (oi := { dst := some 61, op := Op.load 35 (Operand.tmp 60), type := 35, pos := "law.go:245", after := #[{ on := 7, ground := Ground.data }], guard := none }) (v := _) rfl (by kernel_rfl) (by kernel_rfl) (by kernel_rfl) (fun _ _ _ h => h) (yieldsIf_load_mid (by rfl) _ _ rfl _ _ rfl _ _ (fun _ h => h.1) Try.underlying35 rfl (by kernel_rfl)) (by assumption) ?_
      try simp only [Act.put, List.setIfInBounds_toArray, List.set_cons_zero, List.set_cons_succ]
      refine wpAnyH_ready (rs := [14]) (by kernel_rfl) (by simp) ?_
      refine AllReadyH.cons (o := { dst := some 67, op := Op.call { callee := Callee.value (Operand.func 9), args := #[Operand.tmp 61, Operand.tmp 65, Operand.tmp 66], argTypes := #[35, 49, 37] }, type := 4, pos := "law.go:245", after := #[{ on := 8, ground := Ground.data }, { on := 12, ground := Ground.data }, { on := 13, ground := Ground.data }, { on := 6, ground := Ground.chain }], guard := none }) rfl (fun K hK => ?_) AllReadyH.nil
      go_simp
      go_wp2_with (refine (hst.out _ hS.out).mono ?_; rintro r V2 ⟨rfl, K2, hK2, hS2⟩; clear hHeld)
      refine hK.out _ _ (KS.out _ hS2) (fun hHeld => ?_)
      clear hK K
      try simp only [Act.put, List.setIfInBounds_toArray, List.set_cons_zero, List.set_cons_succ]
      refine wpAnyH_take (i := 15) (oi := { dst := some 13, op := Op.assign (Operand.tmp 67), type := 4, pos := "law.go:245", after := #[{ on := 14, ground := Ground.data }, { on := 14, ground := Ground.chain }, { on := 0, ground := Ground.phase }, { on := 1, ground := Ground.phase }, { on := 2, ground := Ground.phase }, { on := 3, ground := Ground.phase }, { on := 4, ground := Ground.phase }, { on := 5, ground := Ground.phase }, { on := 6, ground := Ground.phase }, { on := 7, ground := Ground.phase }, { on := 8, ground := Ground.phase }, { on := 9, ground := Ground.phase }, { on := 10, ground := Ground.phase }, { on := 11, ground := Ground.phase }, { on := 12, ground := Ground.phase }, { on := 13, ground := Ground.phase }, { on := 14, ground := Ground.phase }], guard := none }) (v := ?_) rfl (by kernel_rfl) (by kernel_rfl) (by kernel_rfl) (fun _ _ _ h => h) (Or.inl ⟨by rfl, ?_⟩) (by assumption) ?_
      rotate_left
      · intro w hSw; (try dsimp only at hSw); go_simp; first | done | with_reducible rfl
      try simp only [Act.put, List.setIfInBounds_toArray, List.set_cons_zero, List.set_cons_succ]
      refine wpAnyH_done (by kernel_rfl) ?_ _
      clear hHeld hst hpk KS hS
      have hK9 : K2 ≤ 1048576 := by have := hK3.out; omega
      have hlk := Hd.mk (hS2.looks hK9)
      replace hS2 := Hd.mk hS2
      replace hK9 := Hd.mk hK9
      replace hK2 := Hd.mk hK2
      go_wp2_with fail
      refine hlk.out.mono ?_
      rintro r V3 ⟨rfl, hS3⟩
      replace hS3 := Hd.mk hS3
      clear hlk hS2
      go_wp2_with fail
      refine ⟨⟨i + 1, K2, ?_, hlt, Nat.le_trans hK2.out hK3.out, hS3⟩, ?_⟩
      · first | rfl | rw [next_wU hlt hl] | go_num
      · first | exact next_mU hlt | (rw [next_wU hlt hl]; exact next_mU hlt)
    · have jl : ¬ (i : Int) < (L.length : Int) := fun q => hlt (Int.ofNat_lt.1 q)
      have p0 : wr.cell? ⟨kl, 0, none⟩ = some (.pointer (some ⟨a1, 0, none⟩)) := hS.out.box.2.1 0
      have p1 : wr.cell? ⟨kl, 1, none⟩ = some (.pointer (some ⟨d1, 0, none⟩)) := hS.out.box.2.1 1
      have he := Hd.mk (hS.out.ends 0 (by omega))
      go_wp2_with fail
      refine he.out.mono ?_
      rintro r V1 ⟨rfl, hS1⟩
      have p2 : V1.cell? ⟨kl, 2, none⟩ = some (.pointer (some ⟨a2, 0, none⟩)) := hS1.box.2.1 2
      have p3 : V1.cell? ⟨kl, 3, none⟩ = some (.pointer (some ⟨d2, 0, none⟩)) := hS1.box.2.1 3
      have he2 := Hd.mk (hS1.ends 1 (by omega))
      replace hS1 := Hd.mk hS1
      clear p0 p1 he hS
      go_wp2_with fail
      refine he2.out.mono ?_
      rintro r V2 ⟨rfl, hS2⟩
      replace hS2 := Hd.mk hS2
      clear p2 p3 he2 hS1
      go_wp2_with fail
      go_ret
      exact ⟨rfl, hS2.out.be⟩
end U
end Go.Proofs.Ythblllanofnmmaa
