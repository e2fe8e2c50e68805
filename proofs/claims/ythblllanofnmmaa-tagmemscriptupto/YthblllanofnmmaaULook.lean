import Derived.Test.YthblllanofnmmaaUBk
import Derived.Deep.RegionHeld3
import Derived.BigFrame
/-
  Books of lists of addresses that came out: looks.
-/
namespace Go.Proofs.Ythblllanofnmmaa
namespace U
open Go.RowKit
open B

set_option maxRecDepth 100000 in
set_option maxHeartbeats 8000000 in
theorem looks_any (lo kb K0 : Nat) (hK0 : K0 ≤ 1048576) (ov_ : Value) (rows : List Value) (w : World) (h : Bk lo kb K0 w ov_ rows) : Calls Try.prog 10 #[.pointer (some ⟨kb, 0, none⟩)] w fun x w' => x = .returned (.bool true) ∧ Gr w w' := by
  obtain ⟨oa, oc, rfl, hs⟩ := h.slice
  have c0 : Hd (w.cell? ⟨kb, 0, none⟩ = some (.slice oa K0 oc)) := Hd.mk (h.box.2.1 0)
  replace hs := Hd.mk hs
  clear h
  have G0 := Hd.mk (Gr.refl w)
  go_enter Try.func10, Try.ntmps10
  go_upto_region 2 with fail
  go_loopw [3] (fun x wr => ∃ i : Nat, x = .int .i64 i ∧ i ≤ K0 ∧ Hd (Gr w wr)) (fun x _ => K0 - (intOf x).toNat)
  case atStart => exact ⟨0, rfl, Nat.zero_le _, G0⟩
  case round =>
    clear G0
    obtain ⟨i, rfl, hi', G⟩ := hrel
    have m0 : wr.cell? ⟨kb, 0, none⟩ = some (.slice oa K0 oc) := gr_cell G.out c0.out
    by_cases hi : i < K0
    · have hi1 : (i : Int) < (K0 : Int) := Int.ofNat_lt.2 hi
      obtain ⟨g, M, rfl, c1, hs2⟩ := hs.out i hi
      clear hs
      replace c1 := Hd.mk c1
      replace hs2 := Hd.mk hs2
      go_upto_region 5 with fail
      clear m0
      have G0 := G
      clear G
      generalize wr = W0 at *
      go_loopw [4] (fun x wr => ∃ k : Nat, x = .int .i64 k ∧ k ≤ 4 ∧ Hd (Gr w wr)) (fun x _ => 4 - (intOf x).toNat)
      case atStart => exact ⟨0, rfl, Nat.zero_le _, G0⟩
      case round =>
        clear G0
        obtain ⟨k, rfl, hk', G⟩ := hrel
        have m0 : wr.cell? ⟨kb, 0, none⟩ = some (.slice (some ⟨g, 0, none⟩) K0 oc) := gr_cell G.out c0.out
        have m1 : wr.cell? ⟨g, i, none⟩ = some (.slice (some ⟨M, 0, none⟩) 4 4) := gr_cell G.out c1.out
        by_cases hk : k < 4
        · have hk1 : (k : Int) < 4 := by omega
          obtain ⟨v, c2, hm⟩ := hs2.out k hk
          obtain ⟨a, n, c, rfl, hn, hq⟩ := hm.form
          clear hm
          replace c2 := Hd.mk c2
          replace hq := Hd.mk hq
          go_upto_region 8 with fail
          clear m0 m1
          have G0 := G
          clear G
          generalize wr = W3 at *
          go_loopw [5] (fun x wr => ∃ j : Nat, x = .int .i64 j ∧ j ≤ n ∧ Hd (Gr w wr)) (fun x _ => n - (intOf x).toNat)
          case atStart => exact ⟨0, rfl, Nat.zero_le _, G0⟩
          case round =>
            clear G0
            obtain ⟨j, rfl, hj', G⟩ := hrel
            have m0 : wr.cell? ⟨kb, 0, none⟩ = some (.slice (some ⟨g, 0, none⟩) K0 oc) := gr_cell G.out c0.out
            have m1 : wr.cell? ⟨g, i, none⟩ = some (.slice (some ⟨M, 0, none⟩) 4 4) := gr_cell G.out c1.out
            have m2 : wr.cell? ⟨M, k, none⟩ = some (.slice a n c) := gr_cell G.out c2.out
            by_cases hj : j < n
            · have hj1 : (j : Int) < (n : Int) := Int.ofNat_lt.2 hj
              obtain ⟨ge, rfl, hr⟩ := hq.out j hj
              clear hq
              replace hr := Hd.mk hr
              go_upto_region 10 with fail
              clear m0 m1 m2
              refine wp_region_held_drew (S := (fun W => W.cell? ⟨kb, 0, none⟩ = some (.slice (some ⟨g, 0, none⟩) K0 oc) ∧ W.cell? ⟨g, i, none⟩ = some (.slice (some ⟨M, 0, none⟩) 4 4) ∧ W.cell? ⟨M, k, none⟩ = some (.slice (some ⟨ge, 0, none⟩) n c) ∧ W.cell? ⟨ge, j, none⟩ = some (.int .u64 (mkN i)))) (by kernel_rfl) (⟨gr_cell G.out.drew c0.out, gr_cell G.out.drew c1.out, gr_cell G.out.drew c2.out, gr_cell G.out.drew hr.out⟩) (fun hHeld => ?_)
              replace G : Hd (Gr w wr.drew) := Hd.mk (G.out.drew)
              generalize wr.drew = W9 at *
              clear wr
              refine wpAnyH_take (i := 0) (oi := { dst := some 42, op := Op.move (Operand.tmp 0), type := 37, pos := "law.go:71", after := #[], guard := none }) (v := ?_) rfl (by kernel_rfl) (by kernel_rfl) (by kernel_rfl) (fun _ _ _ h => h) (Or.inl ⟨by rfl, ?_⟩) (by assumption) ?_
              rotate_left
              · intro w hSw; (try dsimp only at hSw); go_simp; first | done | with_reducible rfl
              try simp only [Act.put, List.setIfInBounds_toArray, List.set_cons_zero, List.set_cons_succ]
              refine wpAnyH_take (i := 1) (oi := { dst := some 43, op := Op.nilCheck (Operand.tmp 42), type := 0, pos := "law.go:71", after := #[{ on := 0, ground := Ground.data }], guard := none }) (v := ?_) rfl (by kernel_rfl) (by kernel_rfl) (by kernel_rfl) (fun _ _ _ h => h) (Or.inl ⟨by rfl, ?_⟩) (by assumption) ?_
              rotate_left
              · intro w hSw; (try dsimp only at hSw); go_simp; first | done | with_reducible rfl
              try simp only [Act.put, List.setIfInBounds_toArray, List.set_cons_zero, List.set_cons_succ]
              refine wpAnyH_take (i := 2) (oi := { dst := some 44, op := Op.fieldAddr 40 (Operand.tmp 43) 0, type := 0, pos := "law.go:71", after := #[{ on := 1, ground := Ground.data }], guard := none }) (v := ?_) rfl (by kernel_rfl) (by kernel_rfl) (by kernel_rfl) (fun _ _ _ h => h) (Or.inl ⟨by rfl, ?_⟩) (by assumption) ?_
              rotate_left
              · intro w hSw; (try dsimp only at hSw); go_simp; first | done | with_reducible rfl
              try simp only [Act.put, List.setIfInBounds_toArray, List.set_cons_zero, List.set_cons_succ]
              refine wpAnyH_take (i := 3) (oi := { dst := some 45, op := Op.load 38 (Operand.tmp 44), type := 38, pos := "law.go:71", after := #[{ on := 2, ground := Ground.data }], guard := none }) (v := ?_) rfl (by kernel_rfl) (by kernel_rfl) (by kernel_rfl) (fun _ _ _ h => h) (Or.inl ⟨by rfl, ?_⟩) (by assumption) ?_
              rotate_left
              · intro w hSw; (try dsimp only at hSw); go_simp; first | done | with_reducible rfl
              try simp only [Act.put, List.setIfInBounds_toArray, List.set_cons_zero, List.set_cons_succ]
              refine wpAnyH_take (i := 4) (oi := { dst := some 46, op := Op.move (Operand.tmp 3), type := 3, pos := "law.go:71", after := #[], guard := none }) (v := ?_) rfl (by kernel_rfl) (by kernel_rfl) (by kernel_rfl) (fun _ _ _ h => h) (Or.inl ⟨by rfl, ?_⟩) (by assumption) ?_
              rotate_left
              · intro w hSw; (try dsimp only at hSw); go_simp; first | done | with_reducible rfl
              try simp only [Act.put, List.setIfInBounds_toArray, List.set_cons_zero, List.set_cons_succ]
              refine wpAnyH_take (i := 5) (oi := { dst := some 47, op := Op.indexAddr 38 (Operand.tmp 45) (Operand.tmp 46), type := 0, pos := "law.go:71", after := #[{ on := 3, ground := Ground.data }, { on := 4, ground := Ground.data }], guard := none }) (v := ?_) rfl (by kernel_rfl) (by kernel_rfl) (by kernel_rfl) (fun _ _ _ h => h) (Or.inl ⟨by rfl, ?_⟩) (by assumption) ?_
              rotate_left
              · intro w hSw; (try dsimp only at hSw); go_simp; first | done | with_reducible rfl
              try simp only [Act.put, List.setIfInBounds_toArray, List.set_cons_zero, List.set_cons_succ]
              refine wpAnyH_take (i := 6) (oi := { dst := some 48, op := Op.load 82 (Operand.tmp 47), type := 82, pos := "law.go:71", after := #[{ on := 5, ground := Ground.data }], guard := none }) (v := ?_) rfl (by kernel_rfl) (by kernel_rfl) (by kernel_rfl) (fun _ _ _ h => h) (Or.inl ⟨by rfl, ?_⟩) (by assumption) ?_
              rotate_left
              · intro w hSw; (try dsimp only at hSw); go_simp; first | done | with_reducible rfl
              try simp only [Act.put, List.setIfInBounds_toArray, List.set_cons_zero, List.set_cons_succ]
              refine wpAnyH_take (i := 7) (oi := { dst := some 49, op := Op.move (Operand.tmp 4), type := 3, pos := "law.go:71", after := #[], guard := none }) (v := ?_) rfl (by kernel_rfl) (by kernel_rfl) (by kernel_rfl) (fun _ _ _ h => h) (Or.inl ⟨by rfl, ?_⟩) (by assumption) ?_
              rotate_left
              · intro w hSw; (try dsimp only at hSw); go_simp; first | done | with_reducible rfl
              try simp only [Act.put, List.setIfInBounds_toArray, List.set_cons_zero, List.set_cons_succ]
              refine wpAnyH_take (i := 8) (oi := { dst := some 50, op := Op.indexAddr 82 (Operand.tmp 48) (Operand.tmp 49), type := 0, pos := "law.go:71", after := #[{ on := 6, ground := Ground.data }, { on := 7, ground := Ground.data }], guard := none }) (v := ?_) rfl (by kernel_rfl) (by kernel_rfl) (by kernel_rfl) (fun _ _ _ h => h) (Or.inl ⟨by rfl, ?_⟩) (by assumption) ?_
              rotate_left
              · intro w hSw; (try dsimp only at hSw); go_simp; first | done | with_reducible rfl
              try simp only [Act.put, List.setIfInBounds_toArray, List.set_cons_zero, List.set_cons_succ]
              refine wpAnyH_take (i := 9) (oi := { dst := some 51, op := Op.load 77 (Operand.tmp 50), type := 77, pos := "law.go:71", after := #[{ on := 8, ground := Ground.data }], guard := none }) (v := ?_) rfl (by kernel_rfl) (by kernel_rfl) (by kernel_rfl) (fun _ _ _ h => h) (Or.inl ⟨by rfl, ?_⟩) (by assumption) ?_
              rotate_left
              · intro w hSw; (try dsimp only at hSw); go_simp; first | done | with_reducible rfl
              try simp only [Act.put, List.setIfInBounds_toArray, List.set_cons_zero, List.set_cons_succ]
              refine wpAnyH_take (i := 10) (oi := { dst := some 52, op := Op.move (Operand.tmp 5), type := 3, pos := "law.go:71", after := #[], guard := none }) (v := ?_) rfl (by kernel_rfl) (by kernel_rfl) (by kernel_rfl) (fun _ _ _ h => h) (Or.inl ⟨by rfl, ?_⟩) (by assumption) ?_
              rotate_left
              · intro w hSw; (try dsimp only at hSw); go_simp; first | done | with_reducible rfl
              try simp only [Act.put, List.setIfInBounds_toArray, List.set_cons_zero, List.set_cons_succ]
              refine wpAnyH_take (i := 11) (oi := { dst := some 53, op := Op.indexAddr 77 (Operand.tmp 51) (Operand.tmp 52), type := 0, pos := "law.go:71", after := #[{ on := 9, ground := Ground.data }, { on := 10, ground := Ground.data }], guard := none }) (v := ?_) rfl (by kernel_rfl) (by kernel_rfl) (by kernel_rfl) (fun _ _ _ h => h) (Or.inl ⟨by rfl, ?_⟩) (by assumption) ?_
              rotate_left
              · intro w hSw; (try dsimp only at hSw); go_simp; first | done | with_reducible rfl
              try simp only [Act.put, List.setIfInBounds_toArray, List.set_cons_zero, List.set_cons_succ]
              refine wpAnyH_take (i := 12) (oi := { dst := some 54, op := Op.load 42 (Operand.tmp 53), type := 42, pos := "law.go:71", after := #[{ on := 11, ground := Ground.data }], guard := none }) (v := ?_) rfl (by kernel_rfl) (by kernel_rfl) (by kernel_rfl) (fun _ _ _ h => h) (Or.inl ⟨by rfl, ?_⟩) (by assumption) ?_
              rotate_left
              · intro w hSw; (try dsimp only at hSw); go_simp; first | done | with_reducible rfl
              try simp only [Act.put, List.setIfInBounds_toArray, List.set_cons_zero, List.set_cons_succ]
              refine wpAnyH_take (i := 13) (oi := { dst := some 55, op := Op.move (Operand.tmp 3), type := 3, pos := "law.go:71", after := #[], guard := none }) (v := ?_) rfl (by kernel_rfl) (by kernel_rfl) (by kernel_rfl) (fun _ _ _ h => h) (Or.inl ⟨by rfl, ?_⟩) (by assumption) ?_
              rotate_left
              · intro w hSw; (try dsimp only at hSw); go_simp; first | done | with_reducible rfl
              try simp only [Act.put, List.setIfInBounds_toArray, List.set_cons_zero, List.set_cons_succ]
              refine wpAnyH_ready (rs := [14]) (by kernel_rfl) (by simp) ?_
              refine (AllReadyH.cons (o := { dst := some 56, op := Op.call { callee := Callee.value (Operand.func 29), args := #[Operand.tmp 55], argTypes := #[3] }, type := 42, pos := "law.go:71", after := #[{ on := 13, ground := Ground.data }], guard := none }) rfl (fun K hK => ?_) AllReadyH.nil)
              go_simp
              refine (mark_any i (by omega) _).mono ?_
              rintro x W1 ⟨rfl, G1⟩
              have G2 := Hd.mk (G.out.trans G1)
              dsimp only
              refine hK.out _ _ ⟨gr_cell G2.out c0.out, gr_cell G2.out c1.out, gr_cell G2.out c2.out, gr_cell G2.out hr.out⟩ (fun hHeld => ?_)
              clear hK
              try simp only [Act.put, List.setIfInBounds_toArray, List.set_cons_zero, List.set_cons_succ]
              refine wpAnyH_take (i := 15) (oi := { dst := some 57, op := Op.binOp BinOp.neq 42 (Operand.tmp 54) (Operand.tmp 56) 42, type := 4, pos := "law.go:71", after := #[{ on := 12, ground := Ground.data }, { on := 14, ground := Ground.data }], guard := none }) (v := ?_) rfl (by kernel_rfl) (by kernel_rfl) (by kernel_rfl) (fun _ _ _ h => h) (Or.inl ⟨by rfl, ?_⟩) (by assumption) ?_
              rotate_left
              · intro w hSw; (try dsimp only at hSw); go_simp; first | done | with_reducible rfl
              try simp only [Act.put, List.setIfInBounds_toArray, List.set_cons_zero, List.set_cons_succ]
              refine wpAnyH_done (by kernel_rfl) ?_ _
              clear hHeld
              go_wp2_with fail
              refine ⟨⟨j + 1, ?_, hj, G2⟩, ?_⟩
              · first | rfl | rw [nx_w2 hj hn] | go_num
              · first | exact nx_m2 hj | (rw [nx_w2 hj hn]; exact nx_m2 hj)
            · have hj1 : ¬ (j : Int) < (n : Int) := fun q => hj (Int.ofNat_lt.1 q)
              go_wp2_with fail
              refine ⟨⟨k + 1, ?_, hk, G⟩, ?_⟩
              · first | rfl | rw [nx_w2 hk (by decide)] | go_num
              · first | exact nx_m2 hk | (rw [nx_w2 hk (by decide)]; exact nx_m2 hk)
        · have hk1 : ¬ (k : Int) < 4 := by omega
          go_wp2_with fail
          refine ⟨⟨i + 1, ?_, hi, G⟩, ?_⟩
          · first | rfl | rw [nx_w2 hi (by omega)] | go_num
          · first | exact nx_m2 hi | (rw [nx_w2 hi (by omega)]; exact nx_m2 hi)
    · have hi1 : ¬ (i : Int) < (K0 : Int) := fun q => hi (Int.ofNat_lt.1 q)
      go_wp2_with fail
      go_ret
      exact ⟨rfl, G.out⟩
end U
end Go.Proofs.Ythblllanofnmmaa
