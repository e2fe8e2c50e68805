import Derived.Test.YthblllanofnmmaaP30
import Derived.Deep.RegionHeld3
import Derived.BigFrame
/-
  Books of lists that came out: keep.
-/
namespace Go.Proofs.Ythblllanofnmmaa
namespace U
open Go.RowKit
open B

theorem infoU64 : (Try.prog.info? 42).map (fun i => (i.zero, i.size, i.bytes)) = some (some (.int .u64 0), 1, 8) := by kernel_rfl
set_option maxRecDepth 100000 in
set_option maxHeartbeats 8000000 in
theorem keep_any (lo Kn n kb : Nat) (va : Option Addr) (vc : Nat) (oa : Option Addr) (oc : Nat) (rows : List Value) (w : World) (hV : ∃ xs, w.ownsRow lo 42 (mkI Kn).length (.slice va n vc) n xs) (hn : n ≤ 1048576) (hK0 : Kn ≤ 1048575) (A0 : At w kb #[.slice oa Kn oc]) (hO : w.ownsRow lo 82 1 (.slice oa Kn oc) Kn rows) (hlo : lo ≤ w.heap.size) (hkv : ∀ g, Value.ownBlock (.slice va n vc) = some g → g ≠ kb) (hko : ∀ g, Value.ownBlock (.slice oa Kn oc) = some g → g ≠ kb ∧ Value.ownBlock (.slice va n vc) ≠ some g) :
    Calls Try.prog 26 #[.pointer (some ⟨kb, 0, none⟩), .slice va n vc] w fun x w' => x = .returned (.tuple #[]) ∧ ∃ gO cO M g1 c1 g2 c2 lv, Kb w lo Kn n kb (.slice va n vc) (.slice oa Kn oc) rows w' gO cO M g1 c1 g2 c2 lv := by
  have hvb : ∀ g, Value.ownBlock (.slice va n vc) = some g → g < w.heap.size := fun g q => by
    obtain ⟨xs, hx⟩ := hV
    exact (hx.lt g q).2
  have c0 : w.cell? ⟨kb, 0, none⟩ = some (.slice oa Kn oc) := A0.2.1 0
  replace hV := Hd.mk hV
  replace A0 := Hd.mk A0
  replace hO := Hd.mk hO
  replace hkv := Hd.mk hkv
  replace hko := Hd.mk hko
  replace hvb := Hd.mk hvb
  have hK1 : Kn ≤ 1048576 := by omega
  go_enter Try.func26, Try.ntmps26
  go_upto_region 0 with fail
  refine wp_region_lit ?_
  refine wpList_plain rfl (fun K hK => ?_)
  go_simp
  with_reducible refine hK _ _ ?_
  clear hK K
  try simp only [Act.put, List.setIfInBounds_toArray, List.set_cons_zero, List.set_cons_succ]
  refine wpList_plain rfl (fun K hK => ?_)
  go_simp
  with_reducible refine hK _ _ ?_
  clear hK K
  try simp only [Act.put, List.setIfInBounds_toArray, List.set_cons_zero, List.set_cons_succ]
  refine wpList_plain rfl (fun K hK => ?_)
  go_simp
  with_reducible refine hK _ _ ?_
  clear hK K
  try simp only [Act.put, List.setIfInBounds_toArray, List.set_cons_zero, List.set_cons_succ]
  refine wpList_plain rfl (fun K hK => ?_)
  go_simp
  with_reducible refine hK _ _ ?_
  clear hK K
  try simp only [Act.put, List.setIfInBounds_toArray, List.set_cons_zero, List.set_cons_succ]
  refine wpList_plain rfl (fun K hK => ?_)
  go_simp
  with_reducible refine hK _ _ ?_
  clear hK K
  try simp only [Act.put, List.setIfInBounds_toArray, List.set_cons_zero, List.set_cons_succ]
  refine wpList_plain rfl (fun K hK => ?_)
  go_simp
  ((refine (mark_any Kn hK1 _).mono ?_); rintro x W1 ⟨rfl, G1⟩)
  with_reducible refine hK _ _ ?_
  clear hK K
  try simp only [Act.put, List.setIfInBounds_toArray, List.set_cons_zero, List.set_cons_succ]
  refine wpList_plain rfl (fun K hK => ?_)
  go_simp
  with_reducible refine hK _ _ ?_
  clear hK K
  try simp only [Act.put, List.setIfInBounds_toArray, List.set_cons_zero, List.set_cons_succ]
  have X0 := Hd.mk (Wt.start hV.out G1)
  go_upto_region 2 with fail
  clear c0 G1 hV
  go_loopw [5] (fun x wr => ∃ k : Nat, x = .int .i64 k ∧ k ≤ n ∧ Hd (Wt w lo Kn n (.slice va n vc) k wr)) (fun x _ => n - (intOf x).toNat)
  case atStart => exact ⟨0, rfl, Nat.zero_le _, X0⟩
  case round =>
    clear X0
    obtain ⟨k, rfl, hk', X⟩ := hrel
    by_cases hk : k < n
    · have hk1 : (k : Int) < (n : Int) := Int.ofNat_lt.2 hk
      obtain ⟨g, rfl⟩ := own_form X.out.sh (by omega)
      have hT := Hd.mk (there_own X.out.sh.choose_spec hk)
      obtain ⟨y, c1, f1⟩ : ∃ y, wr.cell? ⟨g, k, none⟩ = some y ∧ wr.frozen? ⟨g, k, none⟩ = false := by
        have q := hT.out 0 (Nat.succ_pos 0)
        rw [show k * (mkI Kn).length + 0 = k from Nat.mul_one k] at q
        obtain ⟨y, hy⟩ := Option.isSome_iff_exists.1 q.1
        exact ⟨y, hy, q.2⟩
      have X2 : Hd (Wt w lo Kn n (.slice (some ⟨g, 0, none⟩) n vc) (k + 1) (wr.setCell ⟨g, k, none⟩ (.int .u64 (mkN Kn)))) := Hd.mk (by
        have q := X.out.write hk
        rw [show k * (mkI Kn).length = k from Nat.mul_one k] at q
        exact q)
      clear X hT
      go_wp2_with fail
      refine ⟨⟨k + 1, ?_, hk, X2⟩, ?_⟩
      · first | rfl | rw [nx_w hk hn] | go_num
      · first | exact nx_m2 hk | (rw [nx_w hk hn]; exact nx_m2 hk)
    · have hk1 : ¬ (k : Int) < (n : Int) := fun q => hk (Int.ofNat_lt.1 q)
      have ek : k = n := by omega
      subst ek
      have Y0 := Hd.mk X.out.lg
      clear X hk'
      go_upto_region 7 with fail
      go_loopw [6, 7] (fun y x wr => ∃ (la : Option Addr) (lc i : Nat), y = .slice la (k + i) lc ∧ x = .int .i64 i ∧ i ≤ 60 ∧ Hd (Lg w lo Kn k (.slice va k vc) (.slice la (k + i) lc) (k + i) wr)) (fun _ x _ => 60 - (intOf x).toNat)
      case atStart => exact ⟨va, vc, 0, rfl, rfl, Nat.zero_le _, Y0⟩
      case round =>
        clear Y0
        obtain ⟨la, lc, i, rfl, rfl, hi', Y⟩ := hrel
        by_cases hi : i < 60
        · have hi1 : (i : Int) < 60 := by omega
          have q1 := Hd.mk (own_below Y.out.ol ((Gr.refl wr).alloc (.cells #[Value.int .u64 (mkN Kn)] 42)).below)
          have q2 : Hd (At (wr.alloc (.cells #[Value.int .u64 (mkN Kn)] 42)) wr.heap.size (mks (mkI Kn) 1).toArray) := Hd.mk (At.new wr #[Value.int .u64 (mkN Kn)] 42)
          have hlw : lo ≤ (wr.alloc (.cells #[Value.int .u64 (mkN Kn)] 42)).heap.size := by have := Y.out.kq.size; simp; omega
          go_upto_region 9 with fail
          refine wp_region_lit ?_
          refine wpList_plain rfl (fun K hK => ?_)
          go_simp
          with_reducible refine hK _ _ ?_
          clear hK K
          try simp only [Act.put, List.setIfInBounds_toArray, List.set_cons_zero, List.set_cons_succ]
          refine wpList_plain rfl (fun K hK => ?_)
          go_simp
          with_reducible refine hK _ _ ?_
          clear hK K
          try simp only [Act.put, List.setIfInBounds_toArray, List.set_cons_zero, List.set_cons_succ]
          refine wpList_plain rfl (fun K hK => ?_)
          go_simp
          with_reducible refine hK _ _ ?_
          clear hK K
          try simp only [Act.put, List.setIfInBounds_toArray, List.set_cons_zero, List.set_cons_succ]
          refine wpList_plain rfl (fun K hK => ?_)
          refine wp_append_m (mkI Kn) (.tmp 29) (.tmp 31) 77 42 _ 8 rfl Try.underlying77 infoU64 rfl (mkI_pos Kn) (mkI_one Kn) lo (.slice la (k + i) lc) (k + i) rfl q1.out wr.heap.size 1 1 rfl q2.out (by decide) (by unfold maxLen; omega) (by omega) hlw ?_
          intro gN cN wN k1 k2 k3 k4 k5 k6
          have Y2 := Hd.mk (Y.out.step k1 k2 k3 k5 k6)
          refine hK _ _ ?_
          clear hK K k1 k2 k3 k4 k5 k6 q1 q2 hlw Y
          try simp only [Act.put, List.setIfInBounds_toArray, List.set_cons_zero, List.set_cons_succ]
          go_wp2_with fail
          refine ⟨⟨some ⟨gN, 0, none⟩, cN, i + 1, rfl, by go_num, by omega, Y2⟩, ?_⟩
          simp [intOf]; omega
        · have hi1 : ¬ (i : Int) < 60 := by omega
          have ei : i = 60 := by omega
          subst ei
          have S0 := Hd.mk Y.out.st
          have hl3 := Hd.mk Y.out.pos
          clear Y hi'
          go_upto_region 10 with fail
          have d1 : Gr wr wr.drew := (Gr.refl _).drew
          replace S0 : Hd (St w lo Kn k 0 (.slice va k vc) (.slice la (k + 60) lc) (k + 60) none none none none none none wr.drew) := Hd.mk (S0.out.gr d1)
          clear d1
          refine wp_region_held_drew (S := (fun _ : World => True)) (by kernel_rfl) (trivial) (fun hHeld => ?_)
          generalize wr.drew = V0 at *
          clear wr
          refine wpAnyH_take (i := 0) (oi := { dst := some 33, op := Op.move (Operand.tmp 0), type := 37, pos := "law.go:63", after := #[], guard := none }) (v := ?_) rfl (by kernel_rfl) (by kernel_rfl) (by kernel_rfl) (fun _ _ _ h => h) (Or.inl ⟨by rfl, ?_⟩) (by assumption) ?_
          rotate_left
          · intro w hSw; (try dsimp only at hSw); go_simp; first | done | with_reducible rfl
          try simp only [Act.put, List.setIfInBounds_toArray, List.set_cons_zero, List.set_cons_succ]
          refine wpAnyH_take (i := 1) (oi := { dst := some 34, op := Op.move (Operand.tmp 0), type := 37, pos := "law.go:63", after := #[], guard := none }) (v := ?_) rfl (by kernel_rfl) (by kernel_rfl) (by kernel_rfl) (fun _ _ _ h => h) (Or.inl ⟨by rfl, ?_⟩) (by assumption) ?_
          rotate_left
          · intro w hSw; (try dsimp only at hSw); go_simp; first | done | with_reducible rfl
          try simp only [Act.put, List.setIfInBounds_toArray, List.set_cons_zero, List.set_cons_succ]
          refine wpAnyH_take (i := 2) (oi := { dst := some 35, op := Op.nilCheck (Operand.tmp 34), type := 0, pos := "law.go:63", after := #[{ on := 1, ground := Ground.data }], guard := none }) (v := ?_) rfl (by kernel_rfl) (by kernel_rfl) (by kernel_rfl) (fun _ _ _ h => h) (Or.inl ⟨by rfl, ?_⟩) (by assumption) ?_
          rotate_left
          · intro w hSw; (try dsimp only at hSw); go_simp; first | done | with_reducible rfl
          try simp only [Act.put, List.setIfInBounds_toArray, List.set_cons_zero, List.set_cons_succ]
          refine wpAnyH_take (i := 3) (oi := { dst := some 36, op := Op.fieldAddr 40 (Operand.tmp 35) 0, type := 0, pos := "law.go:63", after := #[{ on := 2, ground := Ground.data }], guard := none }) (v := ?_) rfl (by kernel_rfl) (by kernel_rfl) (by kernel_rfl) (fun _ _ _ h => h) (Or.inl ⟨by rfl, ?_⟩) (by assumption) ?_
          rotate_left
          · intro w hSw; (try dsimp only at hSw); go_simp; first | done | with_reducible rfl
          try simp only [Act.put, List.setIfInBounds_toArray, List.set_cons_zero, List.set_cons_succ]
          refine wpAnyH_take (i := 5) (oi := { dst := some 38, op := Op.move (Operand.tmp 1), type := 77, pos := "law.go:63", after := #[], guard := none }) (v := ?_) rfl (by kernel_rfl) (by kernel_rfl) (by kernel_rfl) (fun _ _ _ h => h) (Or.inl ⟨by rfl, ?_⟩) (by assumption) ?_
          rotate_left
          · intro w hSw; (try dsimp only at hSw); go_simp; first | done | with_reducible rfl
          try simp only [Act.put, List.setIfInBounds_toArray, List.set_cons_zero, List.set_cons_succ]
          refine wpAnyH_take (i := 6) (oi := { dst := some 39, op := Op.move (Operand.tmp 1), type := 77, pos := "law.go:63", after := #[], guard := none }) (v := ?_) rfl (by kernel_rfl) (by kernel_rfl) (by kernel_rfl) (fun _ _ _ h => h) (Or.inl ⟨by rfl, ?_⟩) (by assumption) ?_
          rotate_left
          · intro w hSw; (try dsimp only at hSw); go_simp; first | done | with_reducible rfl
          try simp only [Act.put, List.setIfInBounds_toArray, List.set_cons_zero, List.set_cons_succ]
          refine wpAnyH_take (i := 7) (oi := { dst := some 40, op := Op.move (Operand.tmp 4), type := 42, pos := "law.go:63", after := #[], guard := none }) (v := ?_) rfl (by kernel_rfl) (by kernel_rfl) (by kernel_rfl) (fun _ _ _ h => h) (Or.inl ⟨by rfl, ?_⟩) (by assumption) ?_
          rotate_left
          · intro w hSw; (try dsimp only at hSw); go_simp; first | done | with_reducible rfl
          try simp only [Act.put, List.setIfInBounds_toArray, List.set_cons_zero, List.set_cons_succ]
          refine wpAnyH_take (i := 10) (oi := { dst := some 43, op := Op.move (Operand.tmp 1), type := 77, pos := "law.go:63", after := #[], guard := none }) (v := ?_) rfl (by kernel_rfl) (by kernel_rfl) (by kernel_rfl) (fun _ _ _ h => h) (Or.inl ⟨by rfl, ?_⟩) (by assumption) ?_
          rotate_left
          · intro w hSw; (try dsimp only at hSw); go_simp; first | done | with_reducible rfl
          try simp only [Act.put, List.setIfInBounds_toArray, List.set_cons_zero, List.set_cons_succ]
          refine wpAnyH_take (i := 11) (oi := { dst := some 44, op := Op.move (Operand.tmp 4), type := 42, pos := "law.go:63", after := #[], guard := none }) (v := ?_) rfl (by kernel_rfl) (by kernel_rfl) (by kernel_rfl) (fun _ _ _ h => h) (Or.inl ⟨by rfl, ?_⟩) (by assumption) ?_
          rotate_left
          · intro w hSw; (try dsimp only at hSw); go_simp; first | done | with_reducible rfl
          try simp only [Act.put, List.setIfInBounds_toArray, List.set_cons_zero, List.set_cons_succ]
          refine wpAnyH_take (i := 12) (oi := { dst := some 45, op := Op.move (Operand.tmp 4), type := 42, pos := "law.go:63", after := #[], guard := none }) (v := ?_) rfl (by kernel_rfl) (by kernel_rfl) (by kernel_rfl) (fun _ _ _ h => h) (Or.inl ⟨by rfl, ?_⟩) (by assumption) ?_
          rotate_left
          · intro w hSw; (try dsimp only at hSw); go_simp; first | done | with_reducible rfl
          try simp only [Act.put, List.setIfInBounds_toArray, List.set_cons_zero, List.set_cons_succ]
          refine wpAnyH_take (i := 13) (oi := { dst := some 46, op := Op.move (Operand.tmp 4), type := 42, pos := "law.go:63", after := #[], guard := none }) (v := ?_) rfl (by kernel_rfl) (by kernel_rfl) (by kernel_rfl) (fun _ _ _ h => h) (Or.inl ⟨by rfl, ?_⟩) (by assumption) ?_
          rotate_left
          · intro w hSw; (try dsimp only at hSw); go_simp; first | done | with_reducible rfl
          try simp only [Act.put, List.setIfInBounds_toArray, List.set_cons_zero, List.set_cons_succ]
          refine wpAnyH_take (i := 16) (oi := { dst := some 49, op := Op.move (Operand.tmp 6), type := 77, pos := "law.go:63", after := #[], guard := none }) (v := ?_) rfl (by kernel_rfl) (by kernel_rfl) (by kernel_rfl) (fun _ _ _ h => h) (Or.inl ⟨by rfl, ?_⟩) (by assumption) ?_
          rotate_left
          · intro w hSw; (try dsimp only at hSw); go_simp; first | done | with_reducible rfl
          try simp only [Act.put, List.setIfInBounds_toArray, List.set_cons_zero, List.set_cons_succ]
          refine wpAnyH_ready (rs := [4, 8, 14]) (by kernel_rfl) (by simp) ?_
          refine (AllReadyH.cons (o := { dst := some 37, op := Op.load 38 (Operand.tmp 36), type := 38, pos := "law.go:63", after := #[{ on := 3, ground := Ground.data }], guard := none }) rfl (fun K hK => ?_) (AllReadyH.cons (o := { dst := some 41, op := Op.buildSlice 77 1 #[(0, Operand.tmp 40)], type := 77, pos := "law.go:63", after := #[{ on := 7, ground := Ground.data }], guard := none }) rfl (fun K hK => ?_) (AllReadyH.cons (o := { dst := some 47, op := Op.buildSlice 77 3 #[(0, Operand.tmp 44), (1, Operand.tmp 45), (2, Operand.tmp 46)], type := 77, pos := "law.go:63", after := #[{ on := 11, ground := Ground.data }, { on := 12, ground := Ground.data }, { on := 13, ground := Ground.data }], guard := none }) rfl (fun K hK => ?_) AllReadyH.nil)))
          · skip
            have kbc : V0.cell? ⟨kb, 0, none⟩ = some (.slice oa Kn oc) := (S0.out.kq.at_ A0.out (fun q => hkv.out kb q rfl)).2.1 0
            go_simp
            clear hHeld
            refine hK.out _ _ trivial (fun hHeld => ?_)
            clear hK kbc
            try simp only [Act.put, List.setIfInBounds_toArray, List.set_cons_zero, List.set_cons_succ]
            refine wpAnyH_ready (rs := [8, 14]) (by kernel_rfl) (by simp) ?_
            refine (AllReadyH.cons (o := { dst := some 41, op := Op.buildSlice 77 1 #[(0, Operand.tmp 40)], type := 77, pos := "law.go:63", after := #[{ on := 7, ground := Ground.data }], guard := none }) rfl (fun K hK => ?_) (AllReadyH.cons (o := { dst := some 47, op := Op.buildSlice 77 3 #[(0, Operand.tmp 44), (1, Operand.tmp 45), (2, Operand.tmp 46)], type := 77, pos := "law.go:63", after := #[{ on := 11, ground := Ground.data }, { on := 12, ground := Ground.data }, { on := 13, ground := Ground.data }], guard := none }) rfl (fun K hK => ?_) AllReadyH.nil))
            · skip
              go_simp
              have S1 : Hd (St w lo Kn k 0 (.slice va k vc) (.slice la (k + 60) lc) (k + 60) (some V0.heap.size) none none none none none (V0.alloc (.cells #[Value.int .u64 (mkN Kn)] 42))) := Hd.mk (S0.out.s8 42)
              clear hHeld
              refine hK.out _ _ trivial (fun hHeld => ?_)
              clear hK S0
              generalize V0.alloc (.cells #[Value.int .u64 (mkN Kn)] 42) = V1 at *
              generalize V0.heap.size = x1 at *
              clear V0
              have S0 := S1
              clear S1
              try simp only [Act.put, List.setIfInBounds_toArray, List.set_cons_zero, List.set_cons_succ]
              refine wpAnyH_ready (rs := [9, 14]) (by kernel_rfl) (by simp) ?_
              refine (AllReadyH.cons (o := { dst := some 42, op := Op.call { callee := Callee.builtin Builtin.append, args := #[Operand.tmp 39, Operand.tmp 41], argTypes := #[77, 77] }, type := 77, pos := "law.go:63", after := #[{ on := 6, ground := Ground.data }, { on := 8, ground := Ground.data }], guard := none }) rfl (fun K hK => ?_) (AllReadyH.cons (o := { dst := some 47, op := Op.buildSlice 77 3 #[(0, Operand.tmp 44), (1, Operand.tmp 45), (2, Operand.tmp 46)], type := 77, pos := "law.go:63", after := #[{ on := 11, ground := Ground.data }, { on := 12, ground := Ground.data }, { on := 13, ground := Ground.data }], guard := none }) rfl (fun K hK => ?_) AllReadyH.nil))
              · skip
                rw [if_pos (by rfl)]
                refine wp_append_m (mkI Kn) (.tmp 39) (.tmp 41) 77 42 _ 8 rfl Try.underlying77 infoU64 rfl (mkI_pos Kn) (mkI_one Kn) lo (.slice va k vc) k rfl S0.out.ov x1 1 1 rfl (S0.out.x1 x1 rfl).1 (by decide) (by unfold maxLen; omega) (by omega) (Nat.le_trans hlo S0.out.kq.size) ?_
                intro g1 c1 V2 k1 k2 k3 k4 k5 k6
                have S1 : Hd (St w lo Kn k 0 (.slice va k vc) (.slice la (k + 60) lc) (k + 60) (some x1) none (some (g1, c1)) none none none V2) := Hd.mk (S0.out.a1 hvb.out k1 k2 k3 k5 k6)
                clear hHeld
                refine hK.out _ _ trivial (fun hHeld => ?_)
                clear hK k1 k2 k3 k4 k5 k6 S0 V1
                have S0 := S1
                clear S1
                try simp only [Act.put, List.setIfInBounds_toArray, List.set_cons_zero, List.set_cons_succ]
                refine wpAnyH_ready (rs := [14]) (by kernel_rfl) (by simp) ?_
                refine (AllReadyH.cons (o := { dst := some 47, op := Op.buildSlice 77 3 #[(0, Operand.tmp 44), (1, Operand.tmp 45), (2, Operand.tmp 46)], type := 77, pos := "law.go:63", after := #[{ on := 11, ground := Ground.data }, { on := 12, ground := Ground.data }, { on := 13, ground := Ground.data }], guard := none }) rfl (fun K hK => ?_) AllReadyH.nil)
                go_simp
                have S1 : Hd (St w lo Kn k 0 (.slice va k vc) (.slice la (k + 60) lc) (k + 60) (some x1) (some V2.heap.size) (some (g1, c1)) none none none (V2.alloc (.cells #[Value.int .u64 (mkN Kn), Value.int .u64 (mkN Kn), Value.int .u64 (mkN Kn)] 42))) := Hd.mk (S0.out.s14 42)
                clear hHeld
                refine hK.out _ _ trivial (fun hHeld => ?_)
                clear hK S0
                generalize V2.alloc (.cells #[Value.int .u64 (mkN Kn), Value.int .u64 (mkN Kn), Value.int .u64 (mkN Kn)] 42) = V3 at *
                generalize V2.heap.size = x3 at *
                clear V2
                have S0 := S1
                clear S1
                try simp only [Act.put, List.setIfInBounds_toArray, List.set_cons_zero, List.set_cons_succ]
                refine wpAnyH_ready (rs := [15]) (by kernel_rfl) (by simp) ?_
                refine (AllReadyH.cons (o := { dst := some 48, op := Op.call { callee := Callee.builtin Builtin.append, args := #[Operand.tmp 43, Operand.tmp 47], argTypes := #[77, 77] }, type := 77, pos := "law.go:63", after := #[{ on := 10, ground := Ground.data }, { on := 14, ground := Ground.data }, { on := 9, ground := Ground.chain }], guard := none }) rfl (fun K hK => ?_) AllReadyH.nil)
                rw [if_pos (by rfl)]
                refine wp_append_m (mkI Kn) (.tmp 43) (.tmp 47) 77 42 _ 8 rfl Try.underlying77 infoU64 rfl (mkI_pos Kn) (mkI_one Kn) lo (.slice va k vc) k rfl S0.out.ov x3 3 3 rfl (S0.out.x3 x3 rfl).1 (by decide) (by unfold maxLen; omega) (by omega) (Nat.le_trans hlo S0.out.kq.size) ?_
                intro g2 c2 V4 k1 k2 k3 k4 k5 k6
                have S1 : Hd (St w lo Kn k 0 (.slice va k vc) (.slice la (k + 60) lc) (k + 60) (some x1) (some x3) (some (g1, c1)) (some (g2, c2)) none none V4) := Hd.mk (S0.out.a2 hvb.out k1 k2 k3 k5 k6)
                clear hHeld
                refine hK.out _ _ trivial (fun hHeld => ?_)
                clear hK k1 k2 k3 k4 k5 k6 S0 V3
                have S0 := S1
                clear S1
                try simp only [Act.put, List.setIfInBounds_toArray, List.set_cons_zero, List.set_cons_succ]
                refine wpAnyH_ready (rs := [17]) (by kernel_rfl) (by simp) ?_
                refine (AllReadyH.cons (o := { dst := some 50, op := Op.buildSlice 82 4 #[(0, Operand.tmp 38), (1, Operand.tmp 42), (2, Operand.tmp 48), (3, Operand.tmp 49)], type := 82, pos := "law.go:63", after := #[{ on := 5, ground := Ground.data }, { on := 9, ground := Ground.data }, { on := 15, ground := Ground.data }, { on := 16, ground := Ground.data }], guard := none }) rfl (fun K hK => ?_) AllReadyH.nil)
                go_simp
                have S1 : Hd (St w lo Kn k 0 (.slice va k vc) (.slice la (k + 60) lc) (k + 60) (some x1) (some x3) (some (g1, c1)) (some (g2, c2)) (some V4.heap.size) none (V4.alloc (.cells #[Value.slice va k vc, .slice (some ⟨g1, 0, none⟩) (k + 1) c1, .slice (some ⟨g2, 0, none⟩) (k + 3) c2, .slice la (k + 60) lc] 77))) := Hd.mk (S0.out.s17 77)
                clear hHeld
                refine hK.out _ _ trivial (fun hHeld => ?_)
                clear hK S0
                generalize V4.alloc (.cells #[Value.slice va k vc, .slice (some ⟨g1, 0, none⟩) (k + 1) c1, .slice (some ⟨g2, 0, none⟩) (k + 3) c2, .slice la (k + 60) lc] 77) = V5 at *
                generalize V4.heap.size = xM at *
                clear V4
                have S0 := S1
                clear S1
                try simp only [Act.put, List.setIfInBounds_toArray, List.set_cons_zero, List.set_cons_succ]
                refine wpAnyH_ready (rs := [18]) (by kernel_rfl) (by simp) ?_
                refine (AllReadyH.cons (o := { dst := some 51, op := Op.buildSlice 38 1 #[(0, Operand.tmp 50)], type := 38, pos := "law.go:63", after := #[{ on := 17, ground := Ground.data }], guard := none }) rfl (fun K hK => ?_) AllReadyH.nil)
                go_simp
                have S1 : Hd (St w lo Kn k 0 (.slice va k vc) (.slice la (k + 60) lc) (k + 60) (some x1) (some x3) (some (g1, c1)) (some (g2, c2)) (some xM) (some V5.heap.size) (V5.alloc (.cells #[Value.slice (some ⟨xM, 0, none⟩) 4 4] 82))) := Hd.mk (S0.out.s18 82)
                clear hHeld
                refine hK.out _ _ trivial (fun hHeld => ?_)
                clear hK S0
                generalize V5.alloc (.cells #[Value.slice (some ⟨xM, 0, none⟩) 4 4] 82) = V6 at *
                generalize V5.heap.size = xX at *
                clear V5
                have S0 := S1
                clear S1
                try simp only [Act.put, List.setIfInBounds_toArray, List.set_cons_zero, List.set_cons_succ]
                refine wpAnyH_ready (rs := [19]) (by kernel_rfl) (by simp) ?_
                refine (AllReadyH.cons (o := { dst := some 52, op := Op.call { callee := Callee.builtin Builtin.append, args := #[Operand.tmp 37, Operand.tmp 51], argTypes := #[38, 38] }, type := 38, pos := "law.go:63", after := #[{ on := 4, ground := Ground.data }, { on := 18, ground := Ground.data }, { on := 15, ground := Ground.chain }], guard := none }) rfl (fun K hK => ?_) AllReadyH.nil)
                rw [if_pos (by rfl)]
                obtain ⟨M_, eM, bX, _⟩ := S0.out.xX xX rfl
                cases eM
                refine wp_append_1 (.tmp 37) (.tmp 51) rfl lo (.slice oa Kn oc) Kn rows (.slice (some ⟨xM, 0, none⟩) 4 4) rfl (S0.out.kq.own hO.out (fun g q => (hko.out g q).2)) xX rfl bX rfl hK1 (Nat.le_trans hlo S0.out.kq.size) ?_
                intro gO cO V7 k1 k2 k3
                have F0 := Hd.mk (S0.out.fin A0.out hO.out hkv.out hko.out hl3.out k1 k2 k3)
                have bb : Hd (At V7 kb #[(.slice oa Kn oc)]) := Hd.mk (at_grown (S0.out.kq.at_ A0.out (fun q => hkv.out kb q rfl)) k2 (fun q => (hko.out kb q).1 rfl))
                clear hHeld
                refine hK.out _ _ trivial (fun hHeld => ?_)
                clear hK k1 k2 k3 bX S0 V6
                try simp only [Act.put, List.setIfInBounds_toArray, List.set_cons_zero, List.set_cons_succ]
                refine wpAnyH_take (i := 20) (oi := { dst := some 53, op := Op.nilCheck (Operand.tmp 33), type := 0, pos := "law.go:63", after := #[{ on := 0, ground := Ground.data }, { on := 0, ground := Ground.phase }, { on := 1, ground := Ground.phase }, { on := 2, ground := Ground.phase }, { on := 3, ground := Ground.phase }, { on := 4, ground := Ground.phase }, { on := 5, ground := Ground.phase }, { on := 6, ground := Ground.phase }, { on := 7, ground := Ground.phase }, { on := 8, ground := Ground.phase }, { on := 9, ground := Ground.phase }, { on := 10, ground := Ground.phase }, { on := 11, ground := Ground.phase }, { on := 12, ground := Ground.phase }, { on := 13, ground := Ground.phase }, { on := 14, ground := Ground.phase }, { on := 15, ground := Ground.phase }, { on := 16, ground := Ground.phase }, { on := 17, ground := Ground.phase }, { on := 18, ground := Ground.phase }, { on := 19, ground := Ground.phase }], guard := none }) (v := ?_) rfl (by kernel_rfl) (by kernel_rfl) (by kernel_rfl) (fun _ _ _ h => h) (Or.inl ⟨by rfl, ?_⟩) (by assumption) ?_
                rotate_left
                · intro w hSw; (try dsimp only at hSw); go_simp; first | done | with_reducible rfl
                try simp only [Act.put, List.setIfInBounds_toArray, List.set_cons_zero, List.set_cons_succ]
                refine wpAnyH_take (i := 21) (oi := { dst := some 54, op := Op.fieldAddr 40 (Operand.tmp 53) 0, type := 0, pos := "law.go:63", after := #[{ on := 20, ground := Ground.data }, { on := 0, ground := Ground.phase }, { on := 1, ground := Ground.phase }, { on := 2, ground := Ground.phase }, { on := 3, ground := Ground.phase }, { on := 4, ground := Ground.phase }, { on := 5, ground := Ground.phase }, { on := 6, ground := Ground.phase }, { on := 7, ground := Ground.phase }, { on := 8, ground := Ground.phase }, { on := 9, ground := Ground.phase }, { on := 10, ground := Ground.phase }, { on := 11, ground := Ground.phase }, { on := 12, ground := Ground.phase }, { on := 13, ground := Ground.phase }, { on := 14, ground := Ground.phase }, { on := 15, ground := Ground.phase }, { on := 16, ground := Ground.phase }, { on := 17, ground := Ground.phase }, { on := 18, ground := Ground.phase }, { on := 19, ground := Ground.phase }], guard := none }) (v := ?_) rfl (by kernel_rfl) (by kernel_rfl) (by kernel_rfl) (fun _ _ _ h => h) (Or.inl ⟨by rfl, ?_⟩) (by assumption) ?_
                rotate_left
                · intro w hSw; (try dsimp only at hSw); go_simp; first | done | with_reducible rfl
                try simp only [Act.put, List.setIfInBounds_toArray, List.set_cons_zero, List.set_cons_succ]
                refine wpAnyH_ready (rs := [22]) (by kernel_rfl) (by simp) ?_
                refine (AllReadyH.cons (o := { dst := none, op := Op.store 38 (Operand.tmp 54) (Operand.tmp 52), type := 0, pos := "law.go:63", after := #[{ on := 21, ground := Ground.data }, { on := 19, ground := Ground.data }, { on := 19, ground := Ground.chain }, { on := 0, ground := Ground.phase }, { on := 1, ground := Ground.phase }, { on := 2, ground := Ground.phase }, { on := 3, ground := Ground.phase }, { on := 4, ground := Ground.phase }, { on := 5, ground := Ground.phase }, { on := 6, ground := Ground.phase }, { on := 7, ground := Ground.phase }, { on := 8, ground := Ground.phase }, { on := 9, ground := Ground.phase }, { on := 10, ground := Ground.phase }, { on := 11, ground := Ground.phase }, { on := 12, ground := Ground.phase }, { on := 13, ground := Ground.phase }, { on := 14, ground := Ground.phase }, { on := 15, ground := Ground.phase }, { on := 16, ground := Ground.phase }, { on := 17, ground := Ground.phase }, { on := 18, ground := Ground.phase }, { on := 19, ground := Ground.phase }], guard := none }) rfl (fun K hK => ?_) AllReadyH.nil)
                have kbc : V7.cell? ⟨kb, 0, none⟩ = some (.slice oa Kn oc) := bb.out.2.1 0
                have kbf : V7.frozen? ⟨kb, 0, none⟩ = false := bb.out.2.2 0
                go_simp
                clear hHeld
                refine hK.out _ _ trivial (fun hHeld => ?_)
                clear hK kbc kbf
                try simp only [Act.put]
                refine wpAnyH_done (by kernel_rfl) ?_ _
                go_wp2_with fail
                simp [bodyPost, results, Try.results26, go_sem]
                exact ⟨gO, cO, xM, g1, c1, g2, c2, _, F0.out⟩
              · skip
                go_simp
                have S1 : Hd (St w lo Kn k 0 (.slice va k vc) (.slice la (k + 60) lc) (k + 60) (some x1) (some V1.heap.size) none none none none (V1.alloc (.cells #[Value.int .u64 (mkN Kn), Value.int .u64 (mkN Kn), Value.int .u64 (mkN Kn)] 42))) := Hd.mk (S0.out.s14 42)
                clear hHeld
                refine hK.out _ _ trivial (fun hHeld => ?_)
                clear hK S0
                generalize V1.alloc (.cells #[Value.int .u64 (mkN Kn), Value.int .u64 (mkN Kn), Value.int .u64 (mkN Kn)] 42) = V2 at *
                generalize V1.heap.size = x3 at *
                clear V1
                have S0 := S1
                clear S1
                try simp only [Act.put, List.setIfInBounds_toArray, List.set_cons_zero, List.set_cons_succ]
                refine wpAnyH_ready (rs := [9]) (by kernel_rfl) (by simp) ?_
                refine (AllReadyH.cons (o := { dst := some 42, op := Op.call { callee := Callee.builtin Builtin.append, args := #[Operand.tmp 39, Operand.tmp 41], argTypes := #[77, 77] }, type := 77, pos := "law.go:63", after := #[{ on := 6, ground := Ground.data }, { on := 8, ground := Ground.data }], guard := none }) rfl (fun K hK => ?_) AllReadyH.nil)
                rw [if_pos (by rfl)]
                refine wp_append_m (mkI Kn) (.tmp 39) (.tmp 41) 77 42 _ 8 rfl Try.underlying77 infoU64 rfl (mkI_pos Kn) (mkI_one Kn) lo (.slice va k vc) k rfl S0.out.ov x1 1 1 rfl (S0.out.x1 x1 rfl).1 (by decide) (by unfold maxLen; omega) (by omega) (Nat.le_trans hlo S0.out.kq.size) ?_
                intro g1 c1 V3 k1 k2 k3 k4 k5 k6
                have S1 : Hd (St w lo Kn k 0 (.slice va k vc) (.slice la (k + 60) lc) (k + 60) (some x1) (some x3) (some (g1, c1)) none none none V3) := Hd.mk (S0.out.a1 hvb.out k1 k2 k3 k5 k6)
                clear hHeld
                refine hK.out _ _ trivial (fun hHeld => ?_)
                clear hK k1 k2 k3 k4 k5 k6 S0 V2
                have S0 := S1
                clear S1
                try simp only [Act.put, List.setIfInBounds_toArray, List.set_cons_zero, List.set_cons_succ]
                refine wpAnyH_ready (rs := [15]) (by kernel_rfl) (by simp) ?_
                refine (AllReadyH.cons (o := { dst := some 48, op := Op.call { callee := Callee.builtin Builtin.append, args := #[Operand.tmp 43, Operand.tmp 47], argTypes := #[77, 77] }, type := 77, pos := "law.go:63", after := #[{ on := 10, ground := Ground.data }, { on := 14, ground := Ground.data }, { on := 9, ground := Ground.chain }], guard := none }) rfl (fun K hK => ?_) AllReadyH.nil)
                rw [if_pos (by rfl)]
                refine wp_append_m (mkI Kn) (.tmp 43) (.tmp 47) 77 42 _ 8 rfl Try.underlying77 infoU64 rfl (mkI_pos Kn) (mkI_one Kn) lo (.slice va k vc) k rfl S0.out.ov x3 3 3 rfl (S0.out.x3 x3 rfl).1 (by decide) (by unfold maxLen; omega) (by omega) (Nat.le_trans hlo S0.out.kq.size) ?_
                intro g2 c2 V4 k1 k2 k3 k4 k5 k6
                have S1 : Hd (St w lo Kn k 0 (.slice va k vc) (.slice la (k + 60) lc) (k + 60) (some x1) (some x3) (some (g1, c1)) (some (g2, c2)) none none V4) := Hd.mk (S0.out.a2 hvb.out k1 k2 k3 k5 k6)
                clear hHeld
                refine hK.out _ _ trivial (fun hHeld => ?_)
                clear hK k1 k2 k3 k4 k5 k6 S0 V3
                have S0 := S1
                clear S1
                try simp only [Act.put, List.setIfInBounds_toArray, List.set_cons_zero, List.set_cons_succ]
                refine wpAnyH_ready (rs := [17]) (by kernel_rfl) (by simp) ?_
                refine (AllReadyH.cons (o := { dst := some 50, op := Op.buildSlice 82 4 #[(0, Operand.tmp 38), (1, Operand.tmp 42), (2, Operand.tmp 48), (3, Operand.tmp 49)], type := 82, pos := "law.go:63", after := #[{ on := 5, ground := Ground.data }, { on := 9, ground := Ground.data }, { on := 15, ground := Ground.data }, { on := 16, ground := Ground.data }], guard := none }) rfl (fun K hK => ?_) AllReadyH.nil)
                go_simp
                have S1 : Hd (St w lo Kn k 0 (.slice va k vc) (.slice la (k + 60) lc) (k + 60) (some x1) (some x3) (some (g1, c1)) (some (g2, c2)) (some V4.heap.size) none (V4.alloc (.cells #[Value.slice va k vc, .slice (some ⟨g1, 0, none⟩) (k + 1) c1, .slice (some ⟨g2, 0, none⟩) (k + 3) c2, .slice la (k + 60) lc] 77))) := Hd.mk (S0.out.s17 77)
                clear hHeld
                refine hK.out _ _ trivial (fun hHeld => ?_)
                clear hK S0
                generalize V4.alloc (.cells #[Value.slice va k vc, .slice (some ⟨g1, 0, none⟩) (k + 1) c1, .slice (some ⟨g2, 0, none⟩) (k + 3) c2, .slice la (k + 60) lc] 77) = V5 at *
                generalize V4.heap.size = xM at *
                clear V4
                have S0 := S1
                clear S1
                try simp only [Act.put, List.setIfInBounds_toArray, List.set_cons_zero, List.set_cons_succ]
                refine wpAnyH_ready (rs := [18]) (by kernel_rfl) (by simp) ?_
                refine (AllReadyH.cons (o := { dst := some 51, op := Op.buildSlice 38 1 #[(0, Operand.tmp 50)], type := 38, pos := "law.go:63", after := #[{ on := 17, ground := Ground.data }], guard := none }) rfl (fun K hK => ?_) AllReadyH.nil)
                go_simp
                have S1 : Hd (St w lo Kn k 0 (.slice va k vc) (.slice la (k + 60) lc) (k + 60) (some x1) (some x3) (some (g1, c1)) (some (g2, c2)) (some xM) (some V5.heap.size) (V5.alloc (.cells #[Value.slice (some ⟨xM, 0, none⟩) 4 4] 82))) := Hd.mk (S0.out.s18 82)
                clear hHeld
                refine hK.out _ _ trivial (fun hHeld => ?_)
                clear hK S0
                generalize V5.alloc (.cells #[Value.slice (some ⟨xM, 0, none⟩) 4 4] 82) = V6 at *
                generalize V5.heap.size = xX at *
                clear V5
                have S0 := S1
                clear S1
                try simp only [Act.put, List.setIfInBounds_toArray, List.set_cons_zero, List.set_cons_succ]
                refine wpAnyH_ready (rs := [19]) (by kernel_rfl) (by simp) ?_
                refine (AllReadyH.cons (o := { dst := some 52, op := Op.call { callee := Callee.builtin Builtin.append, args := #[Operand.tmp 37, Operand.tmp 51], argTypes := #[38, 38] }, type := 38, pos := "law.go:63", after := #[{ on := 4, ground := Ground.data }, { on := 18, ground := Ground.data }, { on := 15, ground := Ground.chain }], guard := none }) rfl (fun K hK => ?_) AllReadyH.nil)
                rw [if_pos (by rfl)]
                obtain ⟨M_, eM, bX, _⟩ := S0.out.xX xX rfl
                cases eM
                refine wp_append_1 (.tmp 37) (.tmp 51) rfl lo (.slice oa Kn oc) Kn rows (.slice (some ⟨xM, 0, none⟩) 4 4) rfl (S0.out.kq.own hO.out (fun g q => (hko.out g q).2)) xX rfl bX rfl hK1 (Nat.le_trans hlo S0.out.kq.size) ?_
                intro gO cO V7 k1 k2 k3
                have F0 := Hd.mk (S0.out.fin A0.out hO.out hkv.out hko.out hl3.out k1 k2 k3)
                have bb : Hd (At V7 kb #[(.slice oa Kn oc)]) := Hd.mk (at_grown (S0.out.kq.at_ A0.out (fun q => hkv.out kb q rfl)) k2 (fun q => (hko.out kb q).1 rfl))
                clear hHeld
                refine hK.out _ _ trivial (fun hHeld => ?_)
                clear hK k1 k2 k3 bX S0 V6
                try simp only [Act.put, List.setIfInBounds_toArray, List.set_cons_zero, List.set_cons_succ]
                refine wpAnyH_take (i := 20) (oi := { dst := some 53, op := Op.nilCheck (Operand.tmp 33), type := 0, pos := "law.go:63", after := #[{ on := 0, ground := Ground.data }, { on := 0, ground := Ground.phase }, { on := 1, ground := Ground.phase }, { on := 2, ground := Ground.phase }, { on := 3, ground := Ground.phase }, { on := 4, ground := Ground.phase }, { on := 5, ground := Ground.phase }, { on := 6, ground := Ground.phase }, { on := 7, ground := Ground.phase }, { on := 8, ground := Ground.phase }, { on := 9, ground := Ground.phase }, { on := 10, ground := Ground.phase }, { on := 11, ground := Ground.phase }, { on := 12, ground := Ground.phase }, { on := 13, ground := Ground.phase }, { on := 14, ground := Ground.phase }, { on := 15, ground := Ground.phase }, { on := 16, ground := Ground.phase }, { on := 17, ground := Ground.phase }, { on := 18, ground := Ground.phase }, { on := 19, ground := Ground.phase }], guard := none }) (v := ?_) rfl (by kernel_rfl) (by kernel_rfl) (by kernel_rfl) (fun _ _ _ h => h) (Or.inl ⟨by rfl, ?_⟩) (by assumption) ?_
                rotate_left
                · intro w hSw; (try dsimp only at hSw); go_simp; first | done | with_reducible rfl
                try simp only [Act.put, List.setIfInBounds_toArray, List.set_cons_zero, List.set_cons_succ]
                refine wpAnyH_take (i := 21) (oi := { dst := some 54, op := Op.fieldAddr 40 (Operand.tmp 53) 0, type := 0, pos := "law.go:63", after := #[{ on := 20, ground := Ground.data }, { on := 0, ground := Ground.phase }, { on := 1, ground := Ground.phase }, { on := 2, ground := Ground.phase }, { on := 3, ground := Ground.phase }, { on := 4, ground := Ground.phase }, { on := 5, ground := Ground.phase }, { on := 6, ground := Ground.phase }, { on := 7, ground := Ground.phase }, { on := 8, ground := Ground.phase }, { on := 9, ground := Ground.phase }, { on := 10, ground := Ground.phase }, { on := 11, ground := Ground.phase }, { on := 12, ground := Ground.phase }, { on := 13, ground := Ground.phase }, { on := 14, ground := Ground.phase }, { on := 15, ground := Ground.phase }, { on := 16, ground := Ground.phase }, { on := 17, ground := Ground.phase }, { on := 18, ground := Ground.phase }, { on := 19, ground := Ground.phase }], guard := none }) (v := ?_) rfl (by kernel_rfl) (by kernel_rfl) (by kernel_rfl) (fun _ _ _ h => h) (Or.inl ⟨by rfl, ?_⟩) (by assumption) ?_
                rotate_left
                · intro w hSw; (try dsimp only at hSw); go_simp; first | done | with_reducible rfl
                try simp only [Act.put, List.setIfInBounds_toArray, List.set_cons_zero, List.set_cons_succ]
                refine wpAnyH_ready (rs := [22]) (by kernel_rfl) (by simp) ?_
                refine (AllReadyH.cons (o := { dst := none, op := Op.store 38 (Operand.tmp 54) (Operand.tmp 52), type := 0, pos := "law.go:63", after := #[{ on := 21, ground := Ground.data }, { on := 19, ground := Ground.data }, { on := 19, ground := Ground.chain }, { on := 0, ground := Ground.phase }, { on := 1, ground := Ground.phase }, { on := 2, ground := Ground.phase }, { on := 3, ground := Ground.phase }, { on := 4, ground := Ground.phase }, { on := 5, ground := Ground.phase }, { on := 6, ground := Ground.phase }, { on := 7, ground := Ground.phase }, { on := 8, ground := Ground.phase }, { on := 9, ground := Ground.phase }, { on := 10, ground := Ground.phase }, { on := 11, ground := Ground.phase }, { on := 12, ground := Ground.phase }, { on := 13, ground := Ground.phase }, { on := 14, ground := Ground.phase }, { on := 15, ground := Ground.phase }, { on := 16, ground := Ground.phase }, { on := 17, ground := Ground.phase }, { on := 18, ground := Ground.phase }, { on := 19, ground := Ground.phase }], guard := none }) rfl (fun K hK => ?_) AllReadyH.nil)
                have kbc : V7.cell? ⟨kb, 0, none⟩ = some (.slice oa Kn oc) := bb.out.2.1 0
                have kbf : V7.frozen? ⟨kb, 0, none⟩ = false := bb.out.2.2 0
                go_simp
                clear hHeld
                refine hK.out _ _ trivial (fun hHeld => ?_)
                clear hK kbc kbf
                try simp only [Act.put]
                refine wpAnyH_done (by kernel_rfl) ?_ _
                go_wp2_with fail
                simp [bodyPost, results, Try.results26, go_sem]
                exact ⟨gO, cO, xM, g1, c1, g2, c2, _, F0.out⟩
            · skip
              go_simp
              have S1 : Hd (St w lo Kn k 0 (.slice va k vc) (.slice la (k + 60) lc) (k + 60) none (some V0.heap.size) none none none none (V0.alloc (.cells #[Value.int .u64 (mkN Kn), Value.int .u64 (mkN Kn), Value.int .u64 (mkN Kn)] 42))) := Hd.mk (S0.out.s14 42)
              clear hHeld
              refine hK.out _ _ trivial (fun hHeld => ?_)
              clear hK S0
              generalize V0.alloc (.cells #[Value.int .u64 (mkN Kn), Value.int .u64 (mkN Kn), Value.int .u64 (mkN Kn)] 42) = V1 at *
              generalize V0.heap.size = x3 at *
              clear V0
              have S0 := S1
              clear S1
              try simp only [Act.put, List.setIfInBounds_toArray, List.set_cons_zero, List.set_cons_succ]
              refine wpAnyH_ready (rs := [8]) (by kernel_rfl) (by simp) ?_
              refine (AllReadyH.cons (o := { dst := some 41, op := Op.buildSlice 77 1 #[(0, Operand.tmp 40)], type := 77, pos := "law.go:63", after := #[{ on := 7, ground := Ground.data }], guard := none }) rfl (fun K hK => ?_) AllReadyH.nil)
              go_simp
              have S1 : Hd (St w lo Kn k 0 (.slice va k vc) (.slice la (k + 60) lc) (k + 60) (some V1.heap.size) (some x3) none none none none (V1.alloc (.cells #[Value.int .u64 (mkN Kn)] 42))) := Hd.mk (S0.out.s8 42)
              clear hHeld
              refine hK.out _ _ trivial (fun hHeld => ?_)
              clear hK S0
              generalize V1.alloc (.cells #[Value.int .u64 (mkN Kn)] 42) = V2 at *
              generalize V1.heap.size = x1 at *
              clear V1
              have S0 := S1
              clear S1
              try simp only [Act.put, List.setIfInBounds_toArray, List.set_cons_zero, List.set_cons_succ]
              refine wpAnyH_ready (rs := [9]) (by kernel_rfl) (by simp) ?_
              refine (AllReadyH.cons (o := { dst := some 42, op := Op.call { callee := Callee.builtin Builtin.append, args := #[Operand.tmp 39, Operand.tmp 41], argTypes := #[77, 77] }, type := 77, pos := "law.go:63", after := #[{ on := 6, ground := Ground.data }, { on := 8, ground := Ground.data }], guard := none }) rfl (fun K hK => ?_) AllReadyH.nil)
              rw [if_pos (by rfl)]
              refine wp_append_m (mkI Kn) (.tmp 39) (.tmp 41) 77 42 _ 8 rfl Try.underlying77 infoU64 rfl (mkI_pos Kn) (mkI_one Kn) lo (.slice va k vc) k rfl S0.out.ov x1 1 1 rfl (S0.out.x1 x1 rfl).1 (by decide) (by unfold maxLen; omega) (by omega) (Nat.le_trans hlo S0.out.kq.size) ?_
              intro g1 c1 V3 k1 k2 k3 k4 k5 k6
              have S1 : Hd (St w lo Kn k 0 (.slice va k vc) (.slice la (k + 60) lc) (k + 60) (some x1) (some x3) (some (g1, c1)) none none none V3) := Hd.mk (S0.out.a1 hvb.out k1 k2 k3 k5 k6)
              clear hHeld
              refine hK.out _ _ trivial (fun hHeld => ?_)
              clear hK k1 k2 k3 k4 k5 k6 S0 V2
              have S0 := S1
              clear S1
              try simp only [Act.put, List.setIfInBounds_toArray, List.set_cons_zero, List.set_cons_succ]
              refine wpAnyH_ready (rs := [15]) (by kernel_rfl) (by simp) ?_
              refine (AllReadyH.cons (o := { dst := some 48, op := Op.call { callee := Callee.builtin Builtin.append, args := #[Operand.tmp 43, Operand.tmp 47], argTypes := #[77, 77] }, type := 77, pos := "law.go:63", after := #[{ on := 10, ground := Ground.data }, { on := 14, ground := Ground.data }, { on := 9, ground := Ground.chain }], guard := none }) rfl (fun K hK => ?_) AllReadyH.nil)
              rw [if_pos (by rfl)]
              refine wp_append_m (mkI Kn) (.tmp 43) (.tmp 47) 77 42 _ 8 rfl Try.underlying77 infoU64 rfl (mkI_pos Kn) (mkI_one Kn) lo (.slice va k vc) k rfl S0.out.ov x3 3 3 rfl (S0.out.x3 x3 rfl).1 (by decide) (by unfold maxLen; omega) (by omega) (Nat.le_trans hlo S0.out.kq.size) ?_
              intro g2 c2 V4 k1 k2 k3 k4 k5 k6
              have S1 : Hd (St w lo Kn k 0 (.slice va k vc) (.slice la (k + 60) lc) (k + 60) (some x1) (some x3) (some (g1, c1)) (some (g2, c2)) none none V4) := Hd.mk (S0.out.a2 hvb.out k1 k2 k3 k5 k6)
              clear hHeld
              refine hK.out _ _ trivial (fun hHeld => ?_)
              clear hK k1 k2 k3 k4 k5 k6 S0 V3
              have S0 := S1
              clear S1
              try simp only [Act.put, List.setIfInBounds_toArray, List.set_cons_zero, List.set_cons_succ]
              refine wpAnyH_ready (rs := [17]) (by kernel_rfl) (by simp) ?_
              refine (AllReadyH.cons (o := { dst := some 50, op := Op.buildSlice 82 4 #[(0, Operand.tmp 38), (1, Operand.tmp 42), (2, Operand.tmp 48), (3, Operand.tmp 49)], type := 82, pos := "law.go:63", after := #[{ on := 5, ground := Ground.data }, { on := 9, ground := Ground.data }, { on := 15, ground := Ground.data }, { on := 16, ground := Ground.data }], guard := none }) rfl (fun K hK => ?_) AllReadyH.nil)
              go_simp
              have S1 : Hd (St w lo Kn k 0 (.slice va k vc) (.slice la (k + 60) lc) (k + 60) (some x1) (some x3) (some (g1, c1)) (some (g2, c2)) (some V4.heap.size) none (V4.alloc (.cells #[Value.slice va k vc, .slice (some ⟨g1, 0, none⟩) (k + 1) c1, .slice (some ⟨g2, 0, none⟩) (k + 3) c2, .slice la (k + 60) lc] 77))) := Hd.mk (S0.out.s17 77)
              clear hHeld
              refine hK.out _ _ trivial (fun hHeld => ?_)
              clear hK S0
              generalize V4.alloc (.cells #[Value.slice va k vc, .slice (some ⟨g1, 0, none⟩) (k + 1) c1, .slice (some ⟨g2, 0, none⟩) (k + 3) c2, .slice la (k + 60) lc] 77) = V5 at *
              generalize V4.heap.size = xM at *
              clear V4
              have S0 := S1
              clear S1
              try simp only [Act.put, List.setIfInBounds_toArray, List.set_cons_zero, List.set_cons_succ]
              refine wpAnyH_ready (rs := [18]) (by kernel_rfl) (by simp) ?_
              refine (AllReadyH.cons (o := { dst := some 51, op := Op.buildSlice 38 1 #[(0, Operand.tmp 50)], type := 38, pos := "law.go:63", after := #[{ on := 17, ground := Ground.data }], guard := none }) rfl (fun K hK => ?_) AllReadyH.nil)
              go_simp
              have S1 : Hd (St w lo Kn k 0 (.slice va k vc) (.slice la (k + 60) lc) (k + 60) (some x1) (some x3) (some (g1, c1)) (some (g2, c2)) (some xM) (some V5.heap.size) (V5.alloc (.cells #[Value.slice (some ⟨xM, 0, none⟩) 4 4] 82))) := Hd.mk (S0.out.s18 82)
              clear hHeld
              refine hK.out _ _ trivial (fun hHeld => ?_)
              clear hK S0
              generalize V5.alloc (.cells #[Value.slice (some ⟨xM, 0, none⟩) 4 4] 82) = V6 at *
              generalize V5.heap.size = xX at *
              clear V5
              have S0 := S1
              clear S1
              try simp only [Act.put, List.setIfInBounds_toArray, List.set_cons_zero, List.set_cons_succ]
              refine wpAnyH_ready (rs := [19]) (by kernel_rfl) (by simp) ?_
              refine (AllReadyH.cons (o := { dst := some 52, op := Op.call { callee := Callee.builtin Builtin.append, args := #[Operand.tmp 37, Operand.tmp 51], argTypes := #[38, 38] }, type := 38, pos := "law.go:63", after := #[{ on := 4, ground := Ground.data }, { on := 18, ground := Ground.data }, { on := 15, ground := Ground.chain }], guard := none }) rfl (fun K hK => ?_) AllReadyH.nil)
              rw [if_pos (by rfl)]
              obtain ⟨M_, eM, bX, _⟩ := S0.out.xX xX rfl
              cases eM
              refine wp_append_1 (.tmp 37) (.tmp 51) rfl lo (.slice oa Kn oc) Kn rows (.slice (some ⟨xM, 0, none⟩) 4 4) rfl (S0.out.kq.own hO.out (fun g q => (hko.out g q).2)) xX rfl bX rfl hK1 (Nat.le_trans hlo S0.out.kq.size) ?_
              intro gO cO V7 k1 k2 k3
              have F0 := Hd.mk (S0.out.fin A0.out hO.out hkv.out hko.out hl3.out k1 k2 k3)
              have bb : Hd (At V7 kb #[(.slice oa Kn oc)]) := Hd.mk (at_grown (S0.out.kq.at_ A0.out (fun q => hkv.out kb q rfl)) k2 (fun q => (hko.out kb q).1 rfl))
              clear hHeld
              refine hK.out _ _ trivial (fun hHeld => ?_)
              clear hK k1 k2 k3 bX S0 V6
              try simp only [Act.put, List.setIfInBounds_toArray, List.set_cons_zero, List.set_cons_succ]
              refine wpAnyH_take (i := 20) (oi := { dst := some 53, op := Op.nilCheck (Operand.tmp 33), type := 0, pos := "law.go:63", after := #[{ on := 0, ground := Ground.data }, { on := 0, ground := Ground.phase }, { on := 1, ground := Ground.phase }, { on := 2, ground := Ground.phase }, { on := 3, ground := Ground.phase }, { on := 4, ground := Ground.phase }, { on := 5, ground := Ground.phase }, { on := 6, ground := Ground.phase }, { on := 7, ground := Ground.phase }, { on := 8, ground := Ground.phase }, { on := 9, ground := Ground.phase }, { on := 10, ground := Ground.phase }, { on := 11, ground := Ground.phase }, { on := 12, ground := Ground.phase }, { on := 13, ground := Ground.phase }, { on := 14, ground := Ground.phase }, { on := 15, ground := Ground.phase }, { on := 16, ground := Ground.phase }, { on := 17, ground := Ground.phase }, { on := 18, ground := Ground.phase }, { on := 19, ground := Ground.phase }], guard := none }) (v := ?_) rfl (by kernel_rfl) (by kernel_rfl) (by kernel_rfl) (fun _ _ _ h => h) (Or.inl ⟨by rfl, ?_⟩) (by assumption) ?_
              rotate_left
              · intro w hSw; (try dsimp only at hSw); go_simp; first | done | with_reducible rfl
              try simp only [Act.put, List.setIfInBounds_toArray, List.set_cons_zero, List.set_cons_succ]
              refine wpAnyH_take (i := 21) (oi := { dst := some 54, op := Op.fieldAddr 40 (Operand.tmp 53) 0, type := 0, pos := "law.go:63", after := #[{ on := 20, ground := Ground.data }, { on := 0, ground := Ground.phase }, { on := 1, ground := Ground.phase }, { on := 2, ground := Ground.phase }, { on := 3, ground := Ground.phase }, { on := 4, ground := Ground.phase }, { on := 5, ground := Ground.phase }, { on := 6, ground := Ground.phase }, { on := 7, ground := Ground.phase }, { on := 8, ground := Ground.phase }, { on := 9, ground := Ground.phase }, { on := 10, ground := Ground.phase }, { on := 11, ground := Ground.phase }, { on := 12, ground := Ground.phase }, { on := 13, ground := Ground.phase }, { on := 14, ground := Ground.phase }, { on := 15, ground := Ground.phase }, { on := 16, ground := Ground.phase }, { on := 17, ground := Ground.phase }, { on := 18, ground := Ground.phase }, { on := 19, ground := Ground.phase }], guard := none }) (v := ?_) rfl (by kernel_rfl) (by kernel_rfl) (by kernel_rfl) (fun _ _ _ h => h) (Or.inl ⟨by rfl, ?_⟩) (by assumption) ?_
              rotate_left
              · intro w hSw; (try dsimp only at hSw); go_simp; first | done | with_reducible rfl
              try simp only [Act.put, List.setIfInBounds_toArray, List.set_cons_zero, List.set_cons_succ]
              refine wpAnyH_ready (rs := [22]) (by kernel_rfl) (by simp) ?_
              refine (AllReadyH.cons (o := { dst := none, op := Op.store 38 (Operand.tmp 54) (Operand.tmp 52), type := 0, pos := "law.go:63", after := #[{ on := 21, ground := Ground.data }, { on := 19, ground := Ground.data }, { on := 19, ground := Ground.chain }, { on := 0, ground := Ground.phase }, { on := 1, ground := Ground.phase }, { on := 2, ground := Ground.phase }, { on := 3, ground := Ground.phase }, { on := 4, ground := Ground.phase }, { on := 5, ground := Ground.phase }, { on := 6, ground := Ground.phase }, { on := 7, ground := Ground.phase }, { on := 8, ground := Ground.phase }, { on := 9, ground := Ground.phase }, { on := 10, ground := Ground.phase }, { on := 11, ground := Ground.phase }, { on := 12, ground := Ground.phase }, { on := 13, ground := Ground.phase }, { on := 14, ground := Ground.phase }, { on := 15, ground := Ground.phase }, { on := 16, ground := Ground.phase }, { on := 17, ground := Ground.phase }, { on := 18, ground := Ground.phase }, { on := 19, ground := Ground.phase }], guard := none }) rfl (fun K hK => ?_) AllReadyH.nil)
              have kbc : V7.cell? ⟨kb, 0, none⟩ = some (.slice oa Kn oc) := bb.out.2.1 0
              have kbf : V7.frozen? ⟨kb, 0, none⟩ = false := bb.out.2.2 0
              go_simp
              clear hHeld
              refine hK.out _ _ trivial (fun hHeld => ?_)
              clear hK kbc kbf
              try simp only [Act.put]
              refine wpAnyH_done (by kernel_rfl) ?_ _
              go_wp2_with fail
              simp [bodyPost, results, Try.results26, go_sem]
              exact ⟨gO, cO, xM, g1, c1, g2, c2, _, F0.out⟩
          · skip
            go_simp
            have S1 : Hd (St w lo Kn k 0 (.slice va k vc) (.slice la (k + 60) lc) (k + 60) (some V0.heap.size) none none none none none (V0.alloc (.cells #[Value.int .u64 (mkN Kn)] 42))) := Hd.mk (S0.out.s8 42)
            clear hHeld
            refine hK.out _ _ trivial (fun hHeld => ?_)
            clear hK S0
            generalize V0.alloc (.cells #[Value.int .u64 (mkN Kn)] 42) = V1 at *
            generalize V0.heap.size = x1 at *
            clear V0
            have S0 := S1
            clear S1
            try simp only [Act.put, List.setIfInBounds_toArray, List.set_cons_zero, List.set_cons_succ]
            refine wpAnyH_ready (rs := [4, 9, 14]) (by kernel_rfl) (by simp) ?_
            refine (AllReadyH.cons (o := { dst := some 37, op := Op.load 38 (Operand.tmp 36), type := 38, pos := "law.go:63", after := #[{ on := 3, ground := Ground.data }], guard := none }) rfl (fun K hK => ?_) (AllReadyH.cons (o := { dst := some 42, op := Op.call { callee := Callee.builtin Builtin.append, args := #[Operand.tmp 39, Operand.tmp 41], argTypes := #[77, 77] }, type := 77, pos := "law.go:63", after := #[{ on := 6, ground := Ground.data }, { on := 8, ground := Ground.data }], guard := none }) rfl (fun K hK => ?_) (AllReadyH.cons (o := { dst := some 47, op := Op.buildSlice 77 3 #[(0, Operand.tmp 44), (1, Operand.tmp 45), (2, Operand.tmp 46)], type := 77, pos := "law.go:63", after := #[{ on := 11, ground := Ground.data }, { on := 12, ground := Ground.data }, { on := 13, ground := Ground.data }], guard := none }) rfl (fun K hK => ?_) AllReadyH.nil)))
            · skip
              have kbc : V1.cell? ⟨kb, 0, none⟩ = some (.slice oa Kn oc) := (S0.out.kq.at_ A0.out (fun q => hkv.out kb q rfl)).2.1 0
              go_simp
              clear hHeld
              refine hK.out _ _ trivial (fun hHeld => ?_)
              clear hK kbc
              try simp only [Act.put, List.setIfInBounds_toArray, List.set_cons_zero, List.set_cons_succ]
              refine wpAnyH_ready (rs := [9, 14]) (by kernel_rfl) (by simp) ?_
              refine (AllReadyH.cons (o := { dst := some 42, op := Op.call { callee := Callee.builtin Builtin.append, args := #[Operand.tmp 39, Operand.tmp 41], argTypes := #[77, 77] }, type := 77, pos := "law.go:63", after := #[{ on := 6, ground := Ground.data }, { on := 8, ground := Ground.data }], guard := none }) rfl (fun K hK => ?_) (AllReadyH.cons (o := { dst := some 47, op := Op.buildSlice 77 3 #[(0, Operand.tmp 44), (1, Operand.tmp 45), (2, Operand.tmp 46)], type := 77, pos := "law.go:63", after := #[{ on := 11, ground := Ground.data }, { on := 12, ground := Ground.data }, { on := 13, ground := Ground.data }], guard := none }) rfl (fun K hK => ?_) AllReadyH.nil))
              · skip
                rw [if_pos (by rfl)]
                refine wp_append_m (mkI Kn) (.tmp 39) (.tmp 41) 77 42 _ 8 rfl Try.underlying77 infoU64 rfl (mkI_pos Kn) (mkI_one Kn) lo (.slice va k vc) k rfl S0.out.ov x1 1 1 rfl (S0.out.x1 x1 rfl).1 (by decide) (by unfold maxLen; omega) (by omega) (Nat.le_trans hlo S0.out.kq.size) ?_
                intro g1 c1 V2 k1 k2 k3 k4 k5 k6
                have S1 : Hd (St w lo Kn k 0 (.slice va k vc) (.slice la (k + 60) lc) (k + 60) (some x1) none (some (g1, c1)) none none none V2) := Hd.mk (S0.out.a1 hvb.out k1 k2 k3 k5 k6)
                clear hHeld
                refine hK.out _ _ trivial (fun hHeld => ?_)
                clear hK k1 k2 k3 k4 k5 k6 S0 V1
                have S0 := S1
                clear S1
                try simp only [Act.put, List.setIfInBounds_toArray, List.set_cons_zero, List.set_cons_succ]
                refine wpAnyH_ready (rs := [14]) (by kernel_rfl) (by simp) ?_
                refine (AllReadyH.cons (o := { dst := some 47, op := Op.buildSlice 77 3 #[(0, Operand.tmp 44), (1, Operand.tmp 45), (2, Operand.tmp 46)], type := 77, pos := "law.go:63", after := #[{ on := 11, ground := Ground.data }, { on := 12, ground := Ground.data }, { on := 13, ground := Ground.data }], guard := none }) rfl (fun K hK => ?_) AllReadyH.nil)
                go_simp
                have S1 : Hd (St w lo Kn k 0 (.slice va k vc) (.slice la (k + 60) lc) (k + 60) (some x1) (some V2.heap.size) (some (g1, c1)) none none none (V2.alloc (.cells #[Value.int .u64 (mkN Kn), Value.int .u64 (mkN Kn), Value.int .u64 (mkN Kn)] 42))) := Hd.mk (S0.out.s14 42)
                clear hHeld
                refine hK.out _ _ trivial (fun hHeld => ?_)
                clear hK S0
                generalize V2.alloc (.cells #[Value.int .u64 (mkN Kn), Value.int .u64 (mkN Kn), Value.int .u64 (mkN Kn)] 42) = V3 at *
                generalize V2.heap.size = x3 at *
                clear V2
                have S0 := S1
                clear S1
                try simp only [Act.put, List.setIfInBounds_toArray, List.set_cons_zero, List.set_cons_succ]
                refine wpAnyH_ready (rs := [15]) (by kernel_rfl) (by simp) ?_
                refine (AllReadyH.cons (o := { dst := some 48, op := Op.call { callee := Callee.builtin Builtin.append, args := #[Operand.tmp 43, Operand.tmp 47], argTypes := #[77, 77] }, type := 77, pos := "law.go:63", after := #[{ on := 10, ground := Ground.data }, { on := 14, ground := Ground.data }, { on := 9, ground := Ground.chain }], guard := none }) rfl (fun K hK => ?_) AllReadyH.nil)
                rw [if_pos (by rfl)]
                refine wp_append_m (mkI Kn) (.tmp 43) (.tmp 47) 77 42 _ 8 rfl Try.underlying77 infoU64 rfl (mkI_pos Kn) (mkI_one Kn) lo (.slice va k vc) k rfl S0.out.ov x3 3 3 rfl (S0.out.x3 x3 rfl).1 (by decide) (by unfold maxLen; omega) (by omega) (Nat.le_trans hlo S0.out.kq.size) ?_
                intro g2 c2 V4 k1 k2 k3 k4 k5 k6
                have S1 : Hd (St w lo Kn k 0 (.slice va k vc) (.slice la (k + 60) lc) (k + 60) (some x1) (some x3) (some (g1, c1)) (some (g2, c2)) none none V4) := Hd.mk (S0.out.a2 hvb.out k1 k2 k3 k5 k6)
                clear hHeld
                refine hK.out _ _ trivial (fun hHeld => ?_)
                clear hK k1 k2 k3 k4 k5 k6 S0 V3
                have S0 := S1
                clear S1
                try simp only [Act.put, List.setIfInBounds_toArray, List.set_cons_zero, List.set_cons_succ]
                refine wpAnyH_ready (rs := [17]) (by kernel_rfl) (by simp) ?_
                refine (AllReadyH.cons (o := { dst := some 50, op := Op.buildSlice 82 4 #[(0, Operand.tmp 38), (1, Operand.tmp 42), (2, Operand.tmp 48), (3, Operand.tmp 49)], type := 82, pos := "law.go:63", after := #[{ on := 5, ground := Ground.data }, { on := 9, ground := Ground.data }, { on := 15, ground := Ground.data }, { on := 16, ground := Ground.data }], guard := none }) rfl (fun K hK => ?_) AllReadyH.nil)
                go_simp
                have S1 : Hd (St w lo Kn k 0 (.slice va k vc) (.slice la (k + 60) lc) (k + 60) (some x1) (some x3) (some (g1, c1)) (some (g2, c2)) (some V4.heap.size) none (V4.alloc (.cells #[Value.slice va k vc, .slice (some ⟨g1, 0, none⟩) (k + 1) c1, .slice (some ⟨g2, 0, none⟩) (k + 3) c2, .slice la (k + 60) lc] 77))) := Hd.mk (S0.out.s17 77)
                clear hHeld
                refine hK.out _ _ trivial (fun hHeld => ?_)
                clear hK S0
                generalize V4.alloc (.cells #[Value.slice va k vc, .slice (some ⟨g1, 0, none⟩) (k + 1) c1, .slice (some ⟨g2, 0, none⟩) (k + 3) c2, .slice la (k + 60) lc] 77) = V5 at *
                generalize V4.heap.size = xM at *
                clear V4
                have S0 := S1
                clear S1
                try simp only [Act.put, List.setIfInBounds_toArray, List.set_cons_zero, List.set_cons_succ]
                refine wpAnyH_ready (rs := [18]) (by kernel_rfl) (by simp) ?_
                refine (AllReadyH.cons (o := { dst := some 51, op := Op.buildSlice 38 1 #[(0, Operand.tmp 50)], type := 38, pos := "law.go:63", after := #[{ on := 17, ground := Ground.data }], guard := none }) rfl (fun K hK => ?_) AllReadyH.nil)
                go_simp
                have S1 : Hd (St w lo Kn k 0 (.slice va k vc) (.slice la (k + 60) lc) (k + 60) (some x1) (some x3) (some (g1, c1)) (some (g2, c2)) (some xM) (some V5.heap.size) (V5.alloc (.cells #[Value.slice (some ⟨xM, 0, none⟩) 4 4] 82))) := Hd.mk (S0.out.s18 82)
                clear hHeld
                refine hK.out _ _ trivial (fun hHeld => ?_)
                clear hK S0
                generalize V5.alloc (.cells #[Value.slice (some ⟨xM, 0, none⟩) 4 4] 82) = V6 at *
                generalize V5.heap.size = xX at *
                clear V5
                have S0 := S1
                clear S1
                try simp only [Act.put, List.setIfInBounds_toArray, List.set_cons_zero, List.set_cons_succ]
                refine wpAnyH_ready (rs := [19]) (by kernel_rfl) (by simp) ?_
                refine (AllReadyH.cons (o := { dst := some 52, op := Op.call { callee := Callee.builtin Builtin.append, args := #[Operand.tmp 37, Operand.tmp 51], argTypes := #[38, 38] }, type := 38, pos := "law.go:63", after := #[{ on := 4, ground := Ground.data }, { on := 18, ground := Ground.data }, { on := 15, ground := Ground.chain }], guard := none }) rfl (fun K hK => ?_) AllReadyH.nil)
                rw [if_pos (by rfl)]
                obtain ⟨M_, eM, bX, _⟩ := S0.out.xX xX rfl
                cases eM
                refine wp_append_1 (.tmp 37) (.tmp 51) rfl lo (.slice oa Kn oc) Kn rows (.slice (some ⟨xM, 0, none⟩) 4 4) rfl (S0.out.kq.own hO.out (fun g q => (hko.out g q).2)) xX rfl bX rfl hK1 (Nat.le_trans hlo S0.out.kq.size) ?_
                intro gO cO V7 k1 k2 k3
                have F0 := Hd.mk (S0.out.fin A0.out hO.out hkv.out hko.out hl3.out k1 k2 k3)
                have bb : Hd (At V7 kb #[(.slice oa Kn oc)]) := Hd.mk (at_grown (S0.out.kq.at_ A0.out (fun q => hkv.out kb q rfl)) k2 (fun q => (hko.out kb q).1 rfl))
                clear hHeld
                refine hK.out _ _ trivial (fun hHeld => ?_)
                clear hK k1 k2 k3 bX S0 V6
                try simp only [Act.put, List.setIfInBounds_toArray, List.set_cons_zero, List.set_cons_succ]
                refine wpAnyH_take (i := 20) (oi := { dst := some 53, op := Op.nilCheck (Operand.tmp 33), type := 0, pos := "law.go:63", after := #[{ on := 0, ground := Ground.data }, { on := 0, ground := Ground.phase }, { on := 1, ground := Ground.phase }, { on := 2, ground := Ground.phase }, { on := 3, ground := Ground.phase }, { on := 4, ground := Ground.phase }, { on := 5, ground := Ground.phase }, { on := 6, ground := Ground.phase }, { on := 7, ground := Ground.phase }, { on := 8, ground := Ground.phase }, { on := 9, ground := Ground.phase }, { on := 10, ground := Ground.phase }, { on := 11, ground := Ground.phase }, { on := 12, ground := Ground.phase }, { on := 13, ground := Ground.phase }, { on := 14, ground := Ground.phase }, { on := 15, ground := Ground.phase }, { on := 16, ground := Ground.phase }, { on := 17, ground := Ground.phase }, { on := 18, ground := Ground.phase }, { on := 19, ground := Ground.phase }], guard := none }) (v := ?_) rfl (by kernel_rfl) (by kernel_rfl) (by kernel_rfl) (fun _ _ _ h => h) (Or.inl ⟨by rfl, ?_⟩) (by assumption) ?_
                rotate_left
                · intro w hSw; (try dsimp only at hSw); go_simp; first | done | with_reducible rfl
                try simp only [Act.put, List.setIfInBounds_toArray, List.set_cons_zero, List.set_cons_succ]
                refine wpAnyH_take (i := 21) (oi := { dst := some 54, op := Op.fieldAddr 40 (Operand.tmp 53) 0, type := 0, pos := "law.go:63", after := #[{ on := 20, ground := Ground.data }, { on := 0, ground := Ground.phase }, { on := 1, ground := Ground.phase }, { on := 2, ground := Ground.phase }, { on := 3, ground := Ground.phase }, { on := 4, ground := Ground.phase }, { on := 5, ground := Ground.phase }, { on := 6, ground := Ground.phase }, { on := 7, ground := Ground.phase }, { on := 8, ground := Ground.phase }, { on := 9, ground := Ground.phase }, { on := 10, ground := Ground.phase }, { on := 11, ground := Ground.phase }, { on := 12, ground := Ground.phase }, { on := 13, ground := Ground.phase }, { on := 14, ground := Ground.phase }, { on := 15, ground := Ground.phase }, { on := 16, ground := Ground.phase }, { on := 17, ground := Ground.phase }, { on := 18, ground := Ground.phase }, { on := 19, ground := Ground.phase }], guard := none }) (v := ?_) rfl (by kernel_rfl) (by kernel_rfl) (by kernel_rfl) (fun _ _ _ h => h) (Or.inl ⟨by rfl, ?_⟩) (by assumption) ?_
                rotate_left
                · intro w hSw; (try dsimp only at hSw); go_simp; first | done | with_reducible rfl
                try simp only [Act.put, List.setIfInBounds_toArray, List.set_cons_zero, List.set_cons_succ]
                refine wpAnyH_ready (rs := [22]) (by kernel_rfl) (by simp) ?_
                refine (AllReadyH.cons (o := { dst := none, op := Op.store 38 (Operand.tmp 54) (Operand.tmp 52), type := 0, pos := "law.go:63", after := #[{ on := 21, ground := Ground.data }, { on := 19, ground := Ground.data }, { on := 19, ground := Ground.chain }, { on := 0, ground := Ground.phase }, { on := 1, ground := Ground.phase }, { on := 2, ground := Ground.phase }, { on := 3, ground := Ground.phase }, { on := 4, ground := Ground.phase }, { on := 5, ground := Ground.phase }, { on := 6, ground := Ground.phase }, { on := 7, ground := Ground.phase }, { on := 8, ground := Ground.phase }, { on := 9, ground := Ground.phase }, { on := 10, ground := Ground.phase }, { on := 11, ground := Ground.phase }, { on := 12, ground := Ground.phase }, { on := 13, ground := Ground.phase }, { on := 14, ground := Ground.phase }, { on := 15, ground := Ground.phase }, { on := 16, ground := Ground.phase }, { on := 17, ground := Ground.phase }, { on := 18, ground := Ground.phase }, { on := 19, ground := Ground.phase }], guard := none }) rfl (fun K hK => ?_) AllReadyH.nil)
                have kbc : V7.cell? ⟨kb, 0, none⟩ = some (.slice oa Kn oc) := bb.out.2.1 0
                have kbf : V7.frozen? ⟨kb, 0, none⟩ = false := bb.out.2.2 0
                go_simp
                clear hHeld
                refine hK.out _ _ trivial (fun hHeld => ?_)
                clear hK kbc kbf
                try simp only [Act.put]
                refine wpAnyH_done (by kernel_rfl) ?_ _
                go_wp2_with fail
                simp [bodyPost, results, Try.results26, go_sem]
                exact ⟨gO, cO, xM, g1, c1, g2, c2, _, F0.out⟩
              · skip
                go_simp
                have S1 : Hd (St w lo Kn k 0 (.slice va k vc) (.slice la (k + 60) lc) (k + 60) (some x1) (some V1.heap.size) none none none none (V1.alloc (.cells #[Value.int .u64 (mkN Kn), Value.int .u64 (mkN Kn), Value.int .u64 (mkN Kn)] 42))) := Hd.mk (S0.out.s14 42)
                clear hHeld
                refine hK.out _ _ trivial (fun hHeld => ?_)
                clear hK S0
                generalize V1.alloc (.cells #[Value.int .u64 (mkN Kn), Value.int .u64 (mkN Kn), Value.int .u64 (mkN Kn)] 42) = V2 at *
                generalize V1.heap.size = x3 at *
                clear V1
                have S0 := S1
                clear S1
                try simp only [Act.put, List.setIfInBounds_toArray, List.set_cons_zero, List.set_cons_succ]
                refine wpAnyH_ready (rs := [9]) (by kernel_rfl) (by simp) ?_
                refine (AllReadyH.cons (o := { dst := some 42, op := Op.call { callee := Callee.builtin Builtin.append, args := #[Operand.tmp 39, Operand.tmp 41], argTypes := #[77, 77] }, type := 77, pos := "law.go:63", after := #[{ on := 6, ground := Ground.data }, { on := 8, ground := Ground.data }], guard := none }) rfl (fun K hK => ?_) AllReadyH.nil)
                rw [if_pos (by rfl)]
                refine wp_append_m (mkI Kn) (.tmp 39) (.tmp 41) 77 42 _ 8 rfl Try.underlying77 infoU64 rfl (mkI_pos Kn) (mkI_one Kn) lo (.slice va k vc) k rfl S0.out.ov x1 1 1 rfl (S0.out.x1 x1 rfl).1 (by decide) (by unfold maxLen; omega) (by omega) (Nat.le_trans hlo S0.out.kq.size) ?_
                intro g1 c1 V3 k1 k2 k3 k4 k5 k6
                have S1 : Hd (St w lo Kn k 0 (.slice va k vc) (.slice la (k + 60) lc) (k + 60) (some x1) (some x3) (some (g1, c1)) none none none V3) := Hd.mk (S0.out.a1 hvb.out k1 k2 k3 k5 k6)
                clear hHeld
                refine hK.out _ _ trivial (fun hHeld => ?_)
                clear hK k1 k2 k3 k4 k5 k6 S0 V2
                have S0 := S1
                clear S1
                try simp only [Act.put, List.setIfInBounds_toArray, List.set_cons_zero, List.set_cons_succ]
                refine wpAnyH_ready (rs := [15]) (by kernel_rfl) (by simp) ?_
                refine (AllReadyH.cons (o := { dst := some 48, op := Op.call { callee := Callee.builtin Builtin.append, args := #[Operand.tmp 43, Operand.tmp 47], argTypes := #[77, 77] }, type := 77, pos := "law.go:63", after := #[{ on := 10, ground := Ground.data }, { on := 14, ground := Ground.data }, { on := 9, ground := Ground.chain }], guard := none }) rfl (fun K hK => ?_) AllReadyH.nil)
                rw [if_pos (by rfl)]
                refine wp_append_m (mkI Kn) (.tmp 43) (.tmp 47) 77 42 _ 8 rfl Try.underlying77 infoU64 rfl (mkI_pos Kn) (mkI_one Kn) lo (.slice va k vc) k rfl S0.out.ov x3 3 3 rfl (S0.out.x3 x3 rfl).1 (by decide) (by unfold maxLen; omega) (by omega) (Nat.le_trans hlo S0.out.kq.size) ?_
                intro g2 c2 V4 k1 k2 k3 k4 k5 k6
                have S1 : Hd (St w lo Kn k 0 (.slice va k vc) (.slice la (k + 60) lc) (k + 60) (some x1) (some x3) (some (g1, c1)) (some (g2, c2)) none none V4) := Hd.mk (S0.out.a2 hvb.out k1 k2 k3 k5 k6)
                clear hHeld
                refine hK.out _ _ trivial (fun hHeld => ?_)
                clear hK k1 k2 k3 k4 k5 k6 S0 V3
                have S0 := S1
                clear S1
                try simp only [Act.put, List.setIfInBounds_toArray, List.set_cons_zero, List.set_cons_succ]
                refine wpAnyH_ready (rs := [17]) (by kernel_rfl) (by simp) ?_
                refine (AllReadyH.cons (o := { dst := some 50, op := Op.buildSlice 82 4 #[(0, Operand.tmp 38), (1, Operand.tmp 42), (2, Operand.tmp 48), (3, Operand.tmp 49)], type := 82, pos := "law.go:63", after := #[{ on := 5, ground := Ground.data }, { on := 9, ground := Ground.data }, { on := 15, ground := Ground.data }, { on := 16, ground := Ground.data }], guard := none }) rfl (fun K hK => ?_) AllReadyH.nil)
                go_simp
                have S1 : Hd (St w lo Kn k 0 (.slice va k vc) (.slice la (k + 60) lc) (k + 60) (some x1) (some x3) (some (g1, c1)) (some (g2, c2)) (some V4.heap.size) none (V4.alloc (.cells #[Value.slice va k vc, .slice (some ⟨g1, 0, none⟩) (k + 1) c1, .slice (some ⟨g2, 0, none⟩) (k + 3) c2, .slice la (k + 60) lc] 77))) := Hd.mk (S0.out.s17 77)
                clear hHeld
                refine hK.out _ _ trivial (fun hHeld => ?_)
                clear hK S0
                generalize V4.alloc (.cells #[Value.slice va k vc, .slice (some ⟨g1, 0, none⟩) (k + 1) c1, .slice (some ⟨g2, 0, none⟩) (k + 3) c2, .slice la (k + 60) lc] 77) = V5 at *
                generalize V4.heap.size = xM at *
                clear V4
                have S0 := S1
                clear S1
                try simp only [Act.put, List.setIfInBounds_toArray, List.set_cons_zero, List.set_cons_succ]
                refine wpAnyH_ready (rs := [18]) (by kernel_rfl) (by simp) ?_
                refine (AllReadyH.cons (o := { dst := some 51, op := Op.buildSlice 38 1 #[(0, Operand.tmp 50)], type := 38, pos := "law.go:63", after := #[{ on := 17, ground := Ground.data }], guard := none }) rfl (fun K hK => ?_) AllReadyH.nil)
                go_simp
                have S1 : Hd (St w lo Kn k 0 (.slice va k vc) (.slice la (k + 60) lc) (k + 60) (some x1) (some x3) (some (g1, c1)) (some (g2, c2)) (some xM) (some V5.heap.size) (V5.alloc (.cells #[Value.slice (some ⟨xM, 0, none⟩) 4 4] 82))) := Hd.mk (S0.out.s18 82)
                clear hHeld
                refine hK.out _ _ trivial (fun hHeld => ?_)
                clear hK S0
                generalize V5.alloc (.cells #[Value.slice (some ⟨xM, 0, none⟩) 4 4] 82) = V6 at *
                generalize V5.heap.size = xX at *
                clear V5
                have S0 := S1
                clear S1
                try simp only [Act.put, List.setIfInBounds_toArray, List.set_cons_zero, List.set_cons_succ]
                refine wpAnyH_ready (rs := [19]) (by kernel_rfl) (by simp) ?_
                refine (AllReadyH.cons (o := { dst := some 52, op := Op.call { callee := Callee.builtin Builtin.append, args := #[Operand.tmp 37, Operand.tmp 51], argTypes := #[38, 38] }, type := 38, pos := "law.go:63", after := #[{ on := 4, ground := Ground.data }, { on := 18, ground := Ground.data }, { on := 15, ground := Ground.chain }], guard := none }) rfl (fun K hK => ?_) AllReadyH.nil)
                rw [if_pos (by rfl)]
                obtain ⟨M_, eM, bX, _⟩ := S0.out.xX xX rfl
                cases eM
                refine wp_append_1 (.tmp 37) (.tmp 51) rfl lo (.slice oa Kn oc) Kn rows (.slice (some ⟨xM, 0, none⟩) 4 4) rfl (S0.out.kq.own hO.out (fun g q => (hko.out g q).2)) xX rfl bX rfl hK1 (Nat.le_trans hlo S0.out.kq.size) ?_
                intro gO cO V7 k1 k2 k3
                have F0 := Hd.mk (S0.out.fin A0.out hO.out hkv.out hko.out hl3.out k1 k2 k3)
                have bb : Hd (At V7 kb #[(.slice oa Kn oc)]) := Hd.mk (at_grown (S0.out.kq.at_ A0.out (fun q => hkv.out kb q rfl)) k2 (fun q => (hko.out kb q).1 rfl))
                clear hHeld
                refine hK.out _ _ trivial (fun hHeld => ?_)
                clear hK k1 k2 k3 bX S0 V6
                try simp only [Act.put, List.setIfInBounds_toArray, List.set_cons_zero, List.set_cons_succ]
                refine wpAnyH_take (i := 20) (oi := { dst := some 53, op := Op.nilCheck (Operand.tmp 33), type := 0, pos := "law.go:63", after := #[{ on := 0, ground := Ground.data }, { on := 0, ground := Ground.phase }, { on := 1, ground := Ground.phase }, { on := 2, ground := Ground.phase }, { on := 3, ground := Ground.phase }, { on := 4, ground := Ground.phase }, { on := 5, ground := Ground.phase }, { on := 6, ground := Ground.phase }, { on := 7, ground := Ground.phase }, { on := 8, ground := Ground.phase }, { on := 9, ground := Ground.phase }, { on := 10, ground := Ground.phase }, { on := 11, ground := Ground.phase }, { on := 12, ground := Ground.phase }, { on := 13, ground := Ground.phase }, { on := 14, ground := Ground.phase }, { on := 15, ground := Ground.phase }, { on := 16, ground := Ground.phase }, { on := 17, ground := Ground.phase }, { on := 18, ground := Ground.phase }, { on := 19, ground := Ground.phase }], guard := none }) (v := ?_) rfl (by kernel_rfl) (by kernel_rfl) (by kernel_rfl) (fun _ _ _ h => h) (Or.inl ⟨by rfl, ?_⟩) (by assumption) ?_
                rotate_left
                · intro w hSw; (try dsimp only at hSw); go_simp; first | done | with_reducible rfl
                try simp only [Act.put, List.setIfInBounds_toArray, List.set_cons_zero, List.set_cons_succ]
                refine wpAnyH_take (i := 21) (oi := { dst := some 54, op := Op.fieldAddr 40 (Operand.tmp 53) 0, type := 0, pos := "law.go:63", after := #[{ on := 20, ground := Ground.data }, { on := 0, ground := Ground.phase }, { on := 1, ground := Ground.phase }, { on := 2, ground := Ground.phase }, { on := 3, ground := Ground.phase }, { on := 4, ground := Ground.phase }, { on := 5, ground := Ground.phase }, { on := 6, ground := Ground.phase }, { on := 7, ground := Ground.phase }, { on := 8, ground := Ground.phase }, { on := 9, ground := Ground.phase }, { on := 10, ground := Ground.phase }, { on := 11, ground := Ground.phase }, { on := 12, ground := Ground.phase }, { on := 13, ground := Ground.phase }, { on := 14, ground := Ground.phase }, { on := 15, ground := Ground.phase }, { on := 16, ground := Ground.phase }, { on := 17, ground := Ground.phase }, { on := 18, ground := Ground.phase }, { on := 19, ground := Ground.phase }], guard := none }) (v := ?_) rfl (by kernel_rfl) (by kernel_rfl) (by kernel_rfl) (fun _ _ _ h => h) (Or.inl ⟨by rfl, ?_⟩) (by assumption) ?_
                rotate_left
                · intro w hSw; (try dsimp only at hSw); go_simp; first | done | with_reducible rfl
                try simp only [Act.put, List.setIfInBounds_toArray, List.set_cons_zero, List.set_cons_succ]
                refine wpAnyH_ready (rs := [22]) (by kernel_rfl) (by simp) ?_
                refine (AllReadyH.cons (o := { dst := none, op := Op.store 38 (Operand.tmp 54) (Operand.tmp 52), type := 0, pos := "law.go:63", after := #[{ on := 21, ground := Ground.data }, { on := 19, ground := Ground.data }, { on := 19, ground := Ground.chain }, { on := 0, ground := Ground.phase }, { on := 1, ground := Ground.phase }, { on := 2, ground := Ground.phase }, { on := 3, ground := Ground.phase }, { on := 4, ground := Ground.phase }, { on := 5, ground := Ground.phase }, { on := 6, ground := Ground.phase }, { on := 7, ground := Ground.phase }, { on := 8, ground := Ground.phase }, { on := 9, ground := Ground.phase }, { on := 10, ground := Ground.phase }, { on := 11, ground := Ground.phase }, { on := 12, ground := Ground.phase }, { on := 13, ground := Ground.phase }, { on := 14, ground := Ground.phase }, { on := 15, ground := Ground.phase }, { on := 16, ground := Ground.phase }, { on := 17, ground := Ground.phase }, { on := 18, ground := Ground.phase }, { on := 19, ground := Ground.phase }], guard := none }) rfl (fun K hK => ?_) AllReadyH.nil)
                have kbc : V7.cell? ⟨kb, 0, none⟩ = some (.slice oa Kn oc) := bb.out.2.1 0
                have kbf : V7.frozen? ⟨kb, 0, none⟩ = false := bb.out.2.2 0
                go_simp
                clear hHeld
                refine hK.out _ _ trivial (fun hHeld => ?_)
                clear hK kbc kbf
                try simp only [Act.put]
                refine wpAnyH_done (by kernel_rfl) ?_ _
                go_wp2_with fail
                simp [bodyPost, results, Try.results26, go_sem]
                exact ⟨gO, cO, xM, g1, c1, g2, c2, _, F0.out⟩
            · skip
              rw [if_pos (by rfl)]
              refine wp_append_m (mkI Kn) (.tmp 39) (.tmp 41) 77 42 _ 8 rfl Try.underlying77 infoU64 rfl (mkI_pos Kn) (mkI_one Kn) lo (.slice va k vc) k rfl S0.out.ov x1 1 1 rfl (S0.out.x1 x1 rfl).1 (by decide) (by unfold maxLen; omega) (by omega) (Nat.le_trans hlo S0.out.kq.size) ?_
              intro g1 c1 V2 k1 k2 k3 k4 k5 k6
              have S1 : Hd (St w lo Kn k 0 (.slice va k vc) (.slice la (k + 60) lc) (k + 60) (some x1) none (some (g1, c1)) none none none V2) := Hd.mk (S0.out.a1 hvb.out k1 k2 k3 k5 k6)
              clear hHeld
              refine hK.out _ _ trivial (fun hHeld => ?_)
              clear hK k1 k2 k3 k4 k5 k6 S0 V1
              have S0 := S1
              clear S1
              try simp only [Act.put, List.setIfInBounds_toArray, List.set_cons_zero, List.set_cons_succ]
              refine wpAnyH_ready (rs := [4, 14]) (by kernel_rfl) (by simp) ?_
              refine (AllReadyH.cons (o := { dst := some 37, op := Op.load 38 (Operand.tmp 36), type := 38, pos := "law.go:63", after := #[{ on := 3, ground := Ground.data }], guard := none }) rfl (fun K hK => ?_) (AllReadyH.cons (o := { dst := some 47, op := Op.buildSlice 77 3 #[(0, Operand.tmp 44), (1, Operand.tmp 45), (2, Operand.tmp 46)], type := 77, pos := "law.go:63", after := #[{ on := 11, ground := Ground.data }, { on := 12, ground := Ground.data }, { on := 13, ground := Ground.data }], guard := none }) rfl (fun K hK => ?_) AllReadyH.nil))
              · skip
                have kbc : V2.cell? ⟨kb, 0, none⟩ = some (.slice oa Kn oc) := (S0.out.kq.at_ A0.out (fun q => hkv.out kb q rfl)).2.1 0
                go_simp
                clear hHeld
                refine hK.out _ _ trivial (fun hHeld => ?_)
                clear hK kbc
                try simp only [Act.put, List.setIfInBounds_toArray, List.set_cons_zero, List.set_cons_succ]
                refine wpAnyH_ready (rs := [14]) (by kernel_rfl) (by simp) ?_
                refine (AllReadyH.cons (o := { dst := some 47, op := Op.buildSlice 77 3 #[(0, Operand.tmp 44), (1, Operand.tmp 45), (2, Operand.tmp 46)], type := 77, pos := "law.go:63", after := #[{ on := 11, ground := Ground.data }, { on := 12, ground := Ground.data }, { on := 13, ground := Ground.data }], guard := none }) rfl (fun K hK => ?_) AllReadyH.nil)
                go_simp
                have S1 : Hd (St w lo Kn k 0 (.slice va k vc) (.slice la (k + 60) lc) (k + 60) (some x1) (some V2.heap.size) (some (g1, c1)) none none none (V2.alloc (.cells #[Value.int .u64 (mkN Kn), Value.int .u64 (mkN Kn), Value.int .u64 (mkN Kn)] 42))) := Hd.mk (S0.out.s14 42)
                clear hHeld
                refine hK.out _ _ trivial (fun hHeld => ?_)
                clear hK S0
                generalize V2.alloc (.cells #[Value.int .u64 (mkN Kn), Value.int .u64 (mkN Kn), Value.int .u64 (mkN Kn)] 42) = V3 at *
                generalize V2.heap.size = x3 at *
                clear V2
                have S0 := S1
                clear S1
                try simp only [Act.put, List.setIfInBounds_toArray, List.set_cons_zero, List.set_cons_succ]
                refine wpAnyH_ready (rs := [15]) (by kernel_rfl) (by simp) ?_
                refine (AllReadyH.cons (o := { dst := some 48, op := Op.call { callee := Callee.builtin Builtin.append, args := #[Operand.tmp 43, Operand.tmp 47], argTypes := #[77, 77] }, type := 77, pos := "law.go:63", after := #[{ on := 10, ground := Ground.data }, { on := 14, ground := Ground.data }, { on := 9, ground := Ground.chain }], guard := none }) rfl (fun K hK => ?_) AllReadyH.nil)
                rw [if_pos (by rfl)]
                refine wp_append_m (mkI Kn) (.tmp 43) (.tmp 47) 77 42 _ 8 rfl Try.underlying77 infoU64 rfl (mkI_pos Kn) (mkI_one Kn) lo (.slice va k vc) k rfl S0.out.ov x3 3 3 rfl (S0.out.x3 x3 rfl).1 (by decide) (by unfold maxLen; omega) (by omega) (Nat.le_trans hlo S0.out.kq.size) ?_
                intro g2 c2 V4 k1 k2 k3 k4 k5 k6
                have S1 : Hd (St w lo Kn k 0 (.slice va k vc) (.slice la (k + 60) lc) (k + 60) (some x1) (some x3) (some (g1, c1)) (some (g2, c2)) none none V4) := Hd.mk (S0.out.a2 hvb.out k1 k2 k3 k5 k6)
                clear hHeld
                refine hK.out _ _ trivial (fun hHeld => ?_)
                clear hK k1 k2 k3 k4 k5 k6 S0 V3
                have S0 := S1
                clear S1
                try simp only [Act.put, List.setIfInBounds_toArray, List.set_cons_zero, List.set_cons_succ]
                refine wpAnyH_ready (rs := [17]) (by kernel_rfl) (by simp) ?_
                refine (AllReadyH.cons (o := { dst := some 50, op := Op.buildSlice 82 4 #[(0, Operand.tmp 38), (1, Operand.tmp 42), (2, Operand.tmp 48), (3, Operand.tmp 49)], type := 82, pos := "law.go:63", after := #[{ on := 5, ground := Ground.data }, { on := 9, ground := Ground.data }, { on := 15, ground := Ground.data }, { on := 16, ground := Ground.data }], guard := none }) rfl (fun K hK => ?_) AllReadyH.nil)
                go_simp
                have S1 : Hd (St w lo Kn k 0 (.slice va k vc) (.slice la (k + 60) lc) (k + 60) (some x1) (some x3) (some (g1, c1)) (some (g2, c2)) (some V4.heap.size) none (V4.alloc (.cells #[Value.slice va k vc, .slice (some ⟨g1, 0, none⟩) (k + 1) c1, .slice (some ⟨g2, 0, none⟩) (k + 3) c2, .slice la (k + 60) lc] 77))) := Hd.mk (S0.out.s17 77)
                clear hHeld
                refine hK.out _ _ trivial (fun hHeld => ?_)
                clear hK S0
                generalize V4.alloc (.cells #[Value.slice va k vc, .slice (some ⟨g1, 0, none⟩) (k + 1) c1, .slice (some ⟨g2, 0, none⟩) (k + 3) c2, .slice la (k + 60) lc] 77) = V5 at *
                generalize V4.heap.size = xM at *
                clear V4
                have S0 := S1
                clear S1
                try simp only [Act.put, List.setIfInBounds_toArray, List.set_cons_zero, List.set_cons_succ]
                refine wpAnyH_ready (rs := [18]) (by kernel_rfl) (by simp) ?_
                refine (AllReadyH.cons (o := { dst := some 51, op := Op.buildSlice 38 1 #[(0, Operand.tmp 50)], type := 38, pos := "law.go:63", after := #[{ on := 17, ground := Ground.data }], guard := none }) rfl (fun K hK => ?_) AllReadyH.nil)
                go_simp
                have S1 : Hd (St w lo Kn k 0 (.slice va k vc) (.slice la (k + 60) lc) (k + 60) (some x1) (some x3) (some (g1, c1)) (some (g2, c2)) (some xM) (some V5.heap.size) (V5.alloc (.cells #[Value.slice (some ⟨xM, 0, none⟩) 4 4] 82))) := Hd.mk (S0.out.s18 82)
                clear hHeld
                refine hK.out _ _ trivial (fun hHeld => ?_)
                clear hK S0
                generalize V5.alloc (.cells #[Value.slice (some ⟨xM, 0, none⟩) 4 4] 82) = V6 at *
                generalize V5.heap.size = xX at *
                clear V5
                have S0 := S1
                clear S1
                try simp only [Act.put, List.setIfInBounds_toArray, List.set_cons_zero, List.set_cons_succ]
                refine wpAnyH_ready (rs := [19]) (by kernel_rfl) (by simp) ?_
                refine (AllReadyH.cons (o := { dst := some 52, op := Op.call { callee := Callee.builtin Builtin.append, args := #[Operand.tmp 37, Operand.tmp 51], argTypes := #[38, 38] }, type := 38, pos := "law.go:63", after := #[{ on := 4, ground := Ground.data }, { on := 18, ground := Ground.data }, { on := 15, ground := Ground.chain }], guard := none }) rfl (fun K hK => ?_) AllReadyH.nil)
                rw [if_pos (by rfl)]
                obtain ⟨M_, eM, bX, _⟩ := S0.out.xX xX rfl
                cases eM
                refine wp_append_1 (.tmp 37) (.tmp 51) rfl lo (.slice oa Kn oc) Kn rows (.slice (some ⟨xM, 0, none⟩) 4 4) rfl (S0.out.kq.own hO.out (fun g q => (hko.out g q).2)) xX rfl bX rfl hK1 (Nat.le_trans hlo S0.out.kq.size) ?_
                intro gO cO V7 k1 k2 k3
                have F0 := Hd.mk (S0.out.fin A0.out hO.out hkv.out hko.out hl3.out k1 k2 k3)
                have bb : Hd (At V7 kb #[(.slice oa Kn oc)]) := Hd.mk (at_grown (S0.out.kq.at_ A0.out (fun q => hkv.out kb q rfl)) k2 (fun q => (hko.out kb q).1 rfl))
                clear hHeld
                refine hK.out _ _ trivial (fun hHeld => ?_)
                clear hK k1 k2 k3 bX S0 V6
                try simp only [Act.put, List.setIfInBounds_toArray, List.set_cons_zero, List.set_cons_succ]
                refine wpAnyH_take (i := 20) (oi := { dst := some 53, op := Op.nilCheck (Operand.tmp 33), type := 0, pos := "law.go:63", after := #[{ on := 0, ground := Ground.data }, { on := 0, ground := Ground.phase }, { on := 1, ground := Ground.phase }, { on := 2, ground := Ground.phase }, { on := 3, ground := Ground.phase }, { on := 4, ground := Ground.phase }, { on := 5, ground := Ground.phase }, { on := 6, ground := Ground.phase }, { on := 7, ground := Ground.phase }, { on := 8, ground := Ground.phase }, { on := 9, ground := Ground.phase }, { on := 10, ground := Ground.phase }, { on := 11, ground := Ground.phase }, { on := 12, ground := Ground.phase }, { on := 13, ground := Ground.phase }, { on := 14, ground := Ground.phase }, { on := 15, ground := Ground.phase }, { on := 16, ground := Ground.phase }, { on := 17, ground := Ground.phase }, { on := 18, ground := Ground.phase }, { on := 19, ground := Ground.phase }], guard := none }) (v := ?_) rfl (by kernel_rfl) (by kernel_rfl) (by kernel_rfl) (fun _ _ _ h => h) (Or.inl ⟨by rfl, ?_⟩) (by assumption) ?_
                rotate_left
                · intro w hSw; (try dsimp only at hSw); go_simp; first | done | with_reducible rfl
                try simp only [Act.put, List.setIfInBounds_toArray, List.set_cons_zero, List.set_cons_succ]
                refine wpAnyH_take (i := 21) (oi := { dst := some 54, op := Op.fieldAddr 40 (Operand.tmp 53) 0, type := 0, pos := "law.go:63", after := #[{ on := 20, ground := Ground.data }, { on := 0, ground := Ground.phase }, { on := 1, ground := Ground.phase }, { on := 2, ground := Ground.phase }, { on := 3, ground := Ground.phase }, { on := 4, ground := Ground.phase }, { on := 5, ground := Ground.phase }, { on := 6, ground := Ground.phase }, { on := 7, ground := Ground.phase }, { on := 8, ground := Ground.phase }, { on := 9, ground := Ground.phase }, { on := 10, ground := Ground.phase }, { on := 11, ground := Ground.phase }, { on := 12, ground := Ground.phase }, { on := 13, ground := Ground.phase }, { on := 14, ground := Ground.phase }, { on := 15, ground := Ground.phase }, { on := 16, ground := Ground.phase }, { on := 17, ground := Ground.phase }, { on := 18, ground := Ground.phase }, { on := 19, ground := Ground.phase }], guard := none }) (v := ?_) rfl (by kernel_rfl) (by kernel_rfl) (by kernel_rfl) (fun _ _ _ h => h) (Or.inl ⟨by rfl, ?_⟩) (by assumption) ?_
                rotate_left
                · intro w hSw; (try dsimp only at hSw); go_simp; first | done | with_reducible rfl
                try simp only [Act.put, List.setIfInBounds_toArray, List.set_cons_zero, List.set_cons_succ]
                refine wpAnyH_ready (rs := [22]) (by kernel_rfl) (by simp) ?_
                refine (AllReadyH.cons (o := { dst := none, op := Op.store 38 (Operand.tmp 54) (Operand.tmp 52), type := 0, pos := "law.go:63", after := #[{ on := 21, ground := Ground.data }, { on := 19, ground := Ground.data }, { on := 19, ground := Ground.chain }, { on := 0, ground := Ground.phase }, { on := 1, ground := Ground.phase }, { on := 2, ground := Ground.phase }, { on := 3, ground := Ground.phase }, { on := 4, ground := Ground.phase }, { on := 5, ground := Ground.phase }, { on := 6, ground := Ground.phase }, { on := 7, ground := Ground.phase }, { on := 8, ground := Ground.phase }, { on := 9, ground := Ground.phase }, { on := 10, ground := Ground.phase }, { on := 11, ground := Ground.phase }, { on := 12, ground := Ground.phase }, { on := 13, ground := Ground.phase }, { on := 14, ground := Ground.phase }, { on := 15, ground := Ground.phase }, { on := 16, ground := Ground.phase }, { on := 17, ground := Ground.phase }, { on := 18, ground := Ground.phase }, { on := 19, ground := Ground.phase }], guard := none }) rfl (fun K hK => ?_) AllReadyH.nil)
                have kbc : V7.cell? ⟨kb, 0, none⟩ = some (.slice oa Kn oc) := bb.out.2.1 0
                have kbf : V7.frozen? ⟨kb, 0, none⟩ = false := bb.out.2.2 0
                go_simp
                clear hHeld
                refine hK.out _ _ trivial (fun hHeld => ?_)
                clear hK kbc kbf
                try simp only [Act.put]
                refine wpAnyH_done (by kernel_rfl) ?_ _
                go_wp2_with fail
                simp [bodyPost, results, Try.results26, go_sem]
                exact ⟨gO, cO, xM, g1, c1, g2, c2, _, F0.out⟩
              · skip
                go_simp
                have S1 : Hd (St w lo Kn k 0 (.slice va k vc) (.slice la (k + 60) lc) (k + 60) (some x1) (some V2.heap.size) (some (g1, c1)) none none none (V2.alloc (.cells #[Value.int .u64 (mkN Kn), Value.int .u64 (mkN Kn), Value.int .u64 (mkN Kn)] 42))) := Hd.mk (S0.out.s14 42)
                clear hHeld
                refine hK.out _ _ trivial (fun hHeld => ?_)
                clear hK S0
                generalize V2.alloc (.cells #[Value.int .u64 (mkN Kn), Value.int .u64 (mkN Kn), Value.int .u64 (mkN Kn)] 42) = V3 at *
                generalize V2.heap.size = x3 at *
                clear V2
                have S0 := S1
                clear S1
                try simp only [Act.put, List.setIfInBounds_toArray, List.set_cons_zero, List.set_cons_succ]
                refine wpAnyH_ready (rs := [4, 15]) (by kernel_rfl) (by simp) ?_
                refine (AllReadyH.cons (o := { dst := some 37, op := Op.load 38 (Operand.tmp 36), type := 38, pos := "law.go:63", after := #[{ on := 3, ground := Ground.data }], guard := none }) rfl (fun K hK => ?_) (AllReadyH.cons (o := { dst := some 48, op := Op.call { callee := Callee.builtin Builtin.append, args := #[Operand.tmp 43, Operand.tmp 47], argTypes := #[77, 77] }, type := 77, pos := "law.go:63", after := #[{ on := 10, ground := Ground.data }, { on := 14, ground := Ground.data }, { on := 9, ground := Ground.chain }], guard := none }) rfl (fun K hK => ?_) AllReadyH.nil))
                · skip
                  have kbc : V3.cell? ⟨kb, 0, none⟩ = some (.slice oa Kn oc) := (S0.out.kq.at_ A0.out (fun q => hkv.out kb q rfl)).2.1 0
                  go_simp
                  clear hHeld
                  refine hK.out _ _ trivial (fun hHeld => ?_)
                  clear hK kbc
                  try simp only [Act.put, List.setIfInBounds_toArray, List.set_cons_zero, List.set_cons_succ]
                  refine wpAnyH_ready (rs := [15]) (by kernel_rfl) (by simp) ?_
                  refine (AllReadyH.cons (o := { dst := some 48, op := Op.call { callee := Callee.builtin Builtin.append, args := #[Operand.tmp 43, Operand.tmp 47], argTypes := #[77, 77] }, type := 77, pos := "law.go:63", after := #[{ on := 10, ground := Ground.data }, { on := 14, ground := Ground.data }, { on := 9, ground := Ground.chain }], guard := none }) rfl (fun K hK => ?_) AllReadyH.nil)
                  rw [if_pos (by rfl)]
                  refine wp_append_m (mkI Kn) (.tmp 43) (.tmp 47) 77 42 _ 8 rfl Try.underlying77 infoU64 rfl (mkI_pos Kn) (mkI_one Kn) lo (.slice va k vc) k rfl S0.out.ov x3 3 3 rfl (S0.out.x3 x3 rfl).1 (by decide) (by unfold maxLen; omega) (by omega) (Nat.le_trans hlo S0.out.kq.size) ?_
                  intro g2 c2 V4 k1 k2 k3 k4 k5 k6
                  have S1 : Hd (St w lo Kn k 0 (.slice va k vc) (.slice la (k + 60) lc) (k + 60) (some x1) (some x3) (some (g1, c1)) (some (g2, c2)) none none V4) := Hd.mk (S0.out.a2 hvb.out k1 k2 k3 k5 k6)
                  clear hHeld
                  refine hK.out _ _ trivial (fun hHeld => ?_)
                  clear hK k1 k2 k3 k4 k5 k6 S0 V3
                  have S0 := S1
                  clear S1
                  try simp only [Act.put, List.setIfInBounds_toArray, List.set_cons_zero, List.set_cons_succ]
                  refine wpAnyH_ready (rs := [17]) (by kernel_rfl) (by simp) ?_
                  refine (AllReadyH.cons (o := { dst := some 50, op := Op.buildSlice 82 4 #[(0, Operand.tmp 38), (1, Operand.tmp 42), (2, Operand.tmp 48), (3, Operand.tmp 49)], type := 82, pos := "law.go:63", after := #[{ on := 5, ground := Ground.data }, { on := 9, ground := Ground.data }, { on := 15, ground := Ground.data }, { on := 16, ground := Ground.data }], guard := none }) rfl (fun K hK => ?_) AllReadyH.nil)
                  go_simp
                  have S1 : Hd (St w lo Kn k 0 (.slice va k vc) (.slice la (k + 60) lc) (k + 60) (some x1) (some x3) (some (g1, c1)) (some (g2, c2)) (some V4.heap.size) none (V4.alloc (.cells #[Value.slice va k vc, .slice (some ⟨g1, 0, none⟩) (k + 1) c1, .slice (some ⟨g2, 0, none⟩) (k + 3) c2, .slice la (k + 60) lc] 77))) := Hd.mk (S0.out.s17 77)
                  clear hHeld
                  refine hK.out _ _ trivial (fun hHeld => ?_)
                  clear hK S0
                  generalize V4.alloc (.cells #[Value.slice va k vc, .slice (some ⟨g1, 0, none⟩) (k + 1) c1, .slice (some ⟨g2, 0, none⟩) (k + 3) c2, .slice la (k + 60) lc] 77) = V5 at *
                  generalize V4.heap.size = xM at *
                  clear V4
                  have S0 := S1
                  clear S1
                  try simp only [Act.put, List.setIfInBounds_toArray, List.set_cons_zero, List.set_cons_succ]
                  refine wpAnyH_ready (rs := [18]) (by kernel_rfl) (by simp) ?_
                  refine (AllReadyH.cons (o := { dst := some 51, op := Op.buildSlice 38 1 #[(0, Operand.tmp 50)], type := 38, pos := "law.go:63", after := #[{ on := 17, ground := Ground.data }], guard := none }) rfl (fun K hK => ?_) AllReadyH.nil)
                  go_simp
                  have S1 : Hd (St w lo Kn k 0 (.slice va k vc) (.slice la (k + 60) lc) (k + 60) (some x1) (some x3) (some (g1, c1)) (some (g2, c2)) (some xM) (some V5.heap.size) (V5.alloc (.cells #[Value.slice (some ⟨xM, 0, none⟩) 4 4] 82))) := Hd.mk (S0.out.s18 82)
                  clear hHeld
                  refine hK.out _ _ trivial (fun hHeld => ?_)
                  clear hK S0
                  generalize V5.alloc (.cells #[Value.slice (some ⟨xM, 0, none⟩) 4 4] 82) = V6 at *
                  generalize V5.heap.size = xX at *
                  clear V5
                  have S0 := S1
                  clear S1
                  try simp only [Act.put, List.setIfInBounds_toArray, List.set_cons_zero, List.set_cons_succ]
                  refine wpAnyH_ready (rs := [19]) (by kernel_rfl) (by simp) ?_
                  refine (AllReadyH.cons (o := { dst := some 52, op := Op.call { callee := Callee.builtin Builtin.append, args := #[Operand.tmp 37, Operand.tmp 51], argTypes := #[38, 38] }, type := 38, pos := "law.go:63", after := #[{ on := 4, ground := Ground.data }, { on := 18, ground := Ground.data }, { on := 15, ground := Ground.chain }], guard := none }) rfl (fun K hK => ?_) AllReadyH.nil)
                  rw [if_pos (by rfl)]
                  obtain ⟨M_, eM, bX, _⟩ := S0.out.xX xX rfl
                  cases eM
                  refine wp_append_1 (.tmp 37) (.tmp 51) rfl lo (.slice oa Kn oc) Kn rows (.slice (some ⟨xM, 0, none⟩) 4 4) rfl (S0.out.kq.own hO.out (fun g q => (hko.out g q).2)) xX rfl bX rfl hK1 (Nat.le_trans hlo S0.out.kq.size) ?_
                  intro gO cO V7 k1 k2 k3
                  have F0 := Hd.mk (S0.out.fin A0.out hO.out hkv.out hko.out hl3.out k1 k2 k3)
                  have bb : Hd (At V7 kb #[(.slice oa Kn oc)]) := Hd.mk (at_grown (S0.out.kq.at_ A0.out (fun q => hkv.out kb q rfl)) k2 (fun q => (hko.out kb q).1 rfl))
                  clear hHeld
                  refine hK.out _ _ trivial (fun hHeld => ?_)
                  clear hK k1 k2 k3 bX S0 V6
                  try simp only [Act.put, List.setIfInBounds_toArray, List.set_cons_zero, List.set_cons_succ]
                  refine wpAnyH_take (i := 20) (oi := { dst := some 53, op := Op.nilCheck (Operand.tmp 33), type := 0, pos := "law.go:63", after := #[{ on := 0, ground := Ground.data }, { on := 0, ground := Ground.phase }, { on := 1, ground := Ground.phase }, { on := 2, ground := Ground.phase }, { on := 3, ground := Ground.phase }, { on := 4, ground := Ground.phase }, { on := 5, ground := Ground.phase }, { on := 6, ground := Ground.phase }, { on := 7, ground := Ground.phase }, { on := 8, ground := Ground.phase }, { on := 9, ground := Ground.phase }, { on := 10, ground := Ground.phase }, { on := 11, ground := Ground.phase }, { on := 12, ground := Ground.phase }, { on := 13, ground := Ground.phase }, { on := 14, ground := Ground.phase }, { on := 15, ground := Ground.phase }, { on := 16, ground := Ground.phase }, { on := 17, ground := Ground.phase }, { on := 18, ground := Ground.phase }, { on := 19, ground := Ground.phase }], guard := none }) (v := ?_) rfl (by kernel_rfl) (by kernel_rfl) (by kernel_rfl) (fun _ _ _ h => h) (Or.inl ⟨by rfl, ?_⟩) (by assumption) ?_
                  rotate_left
                  · intro w hSw; (try dsimp only at hSw); go_simp; first | done | with_reducible rfl
                  try simp only [Act.put, List.setIfInBounds_toArray, List.set_cons_zero, List.set_cons_succ]
                  refine wpAnyH_take (i := 21) (oi := { dst := some 54, op := Op.fieldAddr 40 (Operand.tmp 53) 0, type := 0, pos := "law.go:63", after := #[{ on := 20, ground := Ground.data }, { on := 0, ground := Ground.phase }, { on := 1, ground := Ground.phase }, { on := 2, ground := Ground.phase }, { on := 3, ground := Ground.phase }, { on := 4, ground := Ground.phase }, { on := 5, ground := Ground.phase }, { on := 6, ground := Ground.phase }, { on := 7, ground := Ground.phase }, { on := 8, ground := Ground.phase }, { on := 9, ground := Ground.phase }, { on := 10, ground := Ground.phase }, { on := 11, ground := Ground.phase }, { on := 12, ground := Ground.phase }, { on := 13, ground := Ground.phase }, { on := 14, ground := Ground.phase }, { on := 15, ground := Ground.phase }, { on := 16, ground := Ground.phase }, { on := 17, ground := Ground.phase }, { on := 18, ground := Ground.phase }, { on := 19, ground := Ground.phase }], guard := none }) (v := ?_) rfl (by kernel_rfl) (by kernel_rfl) (by kernel_rfl) (fun _ _ _ h => h) (Or.inl ⟨by rfl, ?_⟩) (by assumption) ?_
                  rotate_left
                  · intro w hSw; (try dsimp only at hSw); go_simp; first | done | with_reducible rfl
                  try simp only [Act.put, List.setIfInBounds_toArray, List.set_cons_zero, List.set_cons_succ]
                  refine wpAnyH_ready (rs := [22]) (by kernel_rfl) (by simp) ?_
                  refine (AllReadyH.cons (o := { dst := none, op := Op.store 38 (Operand.tmp 54) (Operand.tmp 52), type := 0, pos := "law.go:63", after := #[{ on := 21, ground := Ground.data }, { on := 19, ground := Ground.data }, { on := 19, ground := Ground.chain }, { on := 0, ground := Ground.phase }, { on := 1, ground := Ground.phase }, { on := 2, ground := Ground.phase }, { on := 3, ground := Ground.phase }, { on := 4, ground := Ground.phase }, { on := 5, ground := Ground.phase }, { on := 6, ground := Ground.phase }, { on := 7, ground := Ground.phase }, { on := 8, ground := Ground.phase }, { on := 9, ground := Ground.phase }, { on := 10, ground := Ground.phase }, { on := 11, ground := Ground.phase }, { on := 12, ground := Ground.phase }, { on := 13, ground := Ground.phase }, { on := 14, ground := Ground.phase }, { on := 15, ground := Ground.phase }, { on := 16, ground := Ground.phase }, { on := 17, ground := Ground.phase }, { on := 18, ground := Ground.phase }, { on := 19, ground := Ground.phase }], guard := none }) rfl (fun K hK => ?_) AllReadyH.nil)
                  have kbc : V7.cell? ⟨kb, 0, none⟩ = some (.slice oa Kn oc) := bb.out.2.1 0
                  have kbf : V7.frozen? ⟨kb, 0, none⟩ = false := bb.out.2.2 0
                  go_simp
                  clear hHeld
                  refine hK.out _ _ trivial (fun hHeld => ?_)
                  clear hK kbc kbf
                  try simp only [Act.put]
                  refine wpAnyH_done (by kernel_rfl) ?_ _
                  go_wp2_with fail
                  simp [bodyPost, results, Try.results26, go_sem]
                  exact ⟨gO, cO, xM, g1, c1, g2, c2, _, F0.out⟩
                · skip
                  rw [if_pos (by rfl)]
                  refine wp_append_m (mkI Kn) (.tmp 43) (.tmp 47) 77 42 _ 8 rfl Try.underlying77 infoU64 rfl (mkI_pos Kn) (mkI_one Kn) lo (.slice va k vc) k rfl S0.out.ov x3 3 3 rfl (S0.out.x3 x3 rfl).1 (by decide) (by unfold maxLen; omega) (by omega) (Nat.le_trans hlo S0.out.kq.size) ?_
                  intro g2 c2 V4 k1 k2 k3 k4 k5 k6
                  have S1 : Hd (St w lo Kn k 0 (.slice va k vc) (.slice la (k + 60) lc) (k + 60) (some x1) (some x3) (some (g1, c1)) (some (g2, c2)) none none V4) := Hd.mk (S0.out.a2 hvb.out k1 k2 k3 k5 k6)
                  clear hHeld
                  refine hK.out _ _ trivial (fun hHeld => ?_)
                  clear hK k1 k2 k3 k4 k5 k6 S0 V3
                  have S0 := S1
                  clear S1
                  try simp only [Act.put, List.setIfInBounds_toArray, List.set_cons_zero, List.set_cons_succ]
                  refine wpAnyH_ready (rs := [4, 17]) (by kernel_rfl) (by simp) ?_
                  refine (AllReadyH.cons (o := { dst := some 37, op := Op.load 38 (Operand.tmp 36), type := 38, pos := "law.go:63", after := #[{ on := 3, ground := Ground.data }], guard := none }) rfl (fun K hK => ?_) (AllReadyH.cons (o := { dst := some 50, op := Op.buildSlice 82 4 #[(0, Operand.tmp 38), (1, Operand.tmp 42), (2, Operand.tmp 48), (3, Operand.tmp 49)], type := 82, pos := "law.go:63", after := #[{ on := 5, ground := Ground.data }, { on := 9, ground := Ground.data }, { on := 15, ground := Ground.data }, { on := 16, ground := Ground.data }], guard := none }) rfl (fun K hK => ?_) AllReadyH.nil))
                  · skip
                    have kbc : V4.cell? ⟨kb, 0, none⟩ = some (.slice oa Kn oc) := (S0.out.kq.at_ A0.out (fun q => hkv.out kb q rfl)).2.1 0
                    go_simp
                    clear hHeld
                    refine hK.out _ _ trivial (fun hHeld => ?_)
                    clear hK kbc
                    try simp only [Act.put, List.setIfInBounds_toArray, List.set_cons_zero, List.set_cons_succ]
                    refine wpAnyH_ready (rs := [17]) (by kernel_rfl) (by simp) ?_
                    refine (AllReadyH.cons (o := { dst := some 50, op := Op.buildSlice 82 4 #[(0, Operand.tmp 38), (1, Operand.tmp 42), (2, Operand.tmp 48), (3, Operand.tmp 49)], type := 82, pos := "law.go:63", after := #[{ on := 5, ground := Ground.data }, { on := 9, ground := Ground.data }, { on := 15, ground := Ground.data }, { on := 16, ground := Ground.data }], guard := none }) rfl (fun K hK => ?_) AllReadyH.nil)
                    go_simp
                    have S1 : Hd (St w lo Kn k 0 (.slice va k vc) (.slice la (k + 60) lc) (k + 60) (some x1) (some x3) (some (g1, c1)) (some (g2, c2)) (some V4.heap.size) none (V4.alloc (.cells #[Value.slice va k vc, .slice (some ⟨g1, 0, none⟩) (k + 1) c1, .slice (some ⟨g2, 0, none⟩) (k + 3) c2, .slice la (k + 60) lc] 77))) := Hd.mk (S0.out.s17 77)
                    clear hHeld
                    refine hK.out _ _ trivial (fun hHeld => ?_)
                    clear hK S0
                    generalize V4.alloc (.cells #[Value.slice va k vc, .slice (some ⟨g1, 0, none⟩) (k + 1) c1, .slice (some ⟨g2, 0, none⟩) (k + 3) c2, .slice la (k + 60) lc] 77) = V5 at *
                    generalize V4.heap.size = xM at *
                    clear V4
                    have S0 := S1
                    clear S1
                    try simp only [Act.put, List.setIfInBounds_toArray, List.set_cons_zero, List.set_cons_succ]
                    refine wpAnyH_ready (rs := [18]) (by kernel_rfl) (by simp) ?_
                    refine (AllReadyH.cons (o := { dst := some 51, op := Op.buildSlice 38 1 #[(0, Operand.tmp 50)], type := 38, pos := "law.go:63", after := #[{ on := 17, ground := Ground.data }], guard := none }) rfl (fun K hK => ?_) AllReadyH.nil)
                    go_simp
                    have S1 : Hd (St w lo Kn k 0 (.slice va k vc) (.slice la (k + 60) lc) (k + 60) (some x1) (some x3) (some (g1, c1)) (some (g2, c2)) (some xM) (some V5.heap.size) (V5.alloc (.cells #[Value.slice (some ⟨xM, 0, none⟩) 4 4] 82))) := Hd.mk (S0.out.s18 82)
                    clear hHeld
                    refine hK.out _ _ trivial (fun hHeld => ?_)
                    clear hK S0
                    generalize V5.alloc (.cells #[Value.slice (some ⟨xM, 0, none⟩) 4 4] 82) = V6 at *
                    generalize V5.heap.size = xX at *
                    clear V5
                    have S0 := S1
                    clear S1
                    try simp only [Act.put, List.setIfInBounds_toArray, List.set_cons_zero, List.set_cons_succ]
                    refine wpAnyH_ready (rs := [19]) (by kernel_rfl) (by simp) ?_
                    refine (AllReadyH.cons (o := { dst := some 52, op := Op.call { callee := Callee.builtin Builtin.append, args := #[Operand.tmp 37, Operand.tmp 51], argTypes := #[38, 38] }, type := 38, pos := "law.go:63", after := #[{ on := 4, ground := Ground.data }, { on := 18, ground := Ground.data }, { on := 15, ground := Ground.chain }], guard := none }) rfl (fun K hK => ?_) AllReadyH.nil)
                    rw [if_pos (by rfl)]
                    obtain ⟨M_, eM, bX, _⟩ := S0.out.xX xX rfl
                    cases eM
                    refine wp_append_1 (.tmp 37) (.tmp 51) rfl lo (.slice oa Kn oc) Kn rows (.slice (some ⟨xM, 0, none⟩) 4 4) rfl (S0.out.kq.own hO.out (fun g q => (hko.out g q).2)) xX rfl bX rfl hK1 (Nat.le_trans hlo S0.out.kq.size) ?_
                    intro gO cO V7 k1 k2 k3
                    have F0 := Hd.mk (S0.out.fin A0.out hO.out hkv.out hko.out hl3.out k1 k2 k3)
                    have bb : Hd (At V7 kb #[(.slice oa Kn oc)]) := Hd.mk (at_grown (S0.out.kq.at_ A0.out (fun q => hkv.out kb q rfl)) k2 (fun q => (hko.out kb q).1 rfl))
                    clear hHeld
                    refine hK.out _ _ trivial (fun hHeld => ?_)
                    clear hK k1 k2 k3 bX S0 V6
                    try simp only [Act.put, List.setIfInBounds_toArray, List.set_cons_zero, List.set_cons_succ]
                    refine wpAnyH_take (i := 20) (oi := { dst := some 53, op := Op.nilCheck (Operand.tmp 33), type := 0, pos := "law.go:63", after := #[{ on := 0, ground := Ground.data }, { on := 0, ground := Ground.phase }, { on := 1, ground := Ground.phase }, { on := 2, ground := Ground.phase }, { on := 3, ground := Ground.phase }, { on := 4, ground := Ground.phase }, { on := 5, ground := Ground.phase }, { on := 6, ground := Ground.phase }, { on := 7, ground := Ground.phase }, { on := 8, ground := Ground.phase }, { on := 9, ground := Ground.phase }, { on := 10, ground := Ground.phase }, { on := 11, ground := Ground.phase }, { on := 12, ground := Ground.phase }, { on := 13, ground := Ground.phase }, { on := 14, ground := Ground.phase }, { on := 15, ground := Ground.phase }, { on := 16, ground := Ground.phase }, { on := 17, ground := Ground.phase }, { on := 18, ground := Ground.phase }, { on := 19, ground := Ground.phase }], guard := none }) (v := ?_) rfl (by kernel_rfl) (by kernel_rfl) (by kernel_rfl) (fun _ _ _ h => h) (Or.inl ⟨by rfl, ?_⟩) (by assumption) ?_
                    rotate_left
                    · intro w hSw; (try dsimp only at hSw); go_simp; first | done | with_reducible rfl
                    try simp only [Act.put, List.setIfInBounds_toArray, List.set_cons_zero, List.set_cons_succ]
                    refine wpAnyH_take (i := 21) (oi := { dst := some 54, op := Op.fieldAddr 40 (Operand.tmp 53) 0, type := 0, pos := "law.go:63", after := #[{ on := 20, ground := Ground.data }, { on := 0, ground := Ground.phase }, { on := 1, ground := Ground.phase }, { on := 2, ground := Ground.phase }, { on := 3, ground := Ground.phase }, { on := 4, ground := Ground.phase }, { on := 5, ground := Ground.phase }, { on := 6, ground := Ground.phase }, { on := 7, ground := Ground.phase }, { on := 8, ground := Ground.phase }, { on := 9, ground := Ground.phase }, { on := 10, ground := Ground.phase }, { on := 11, ground := Ground.phase }, { on := 12, ground := Ground.phase }, { on := 13, ground := Ground.phase }, { on := 14, ground := Ground.phase }, { on := 15, ground := Ground.phase }, { on := 16, ground := Ground.phase }, { on := 17, ground := Ground.phase }, { on := 18, ground := Ground.phase }, { on := 19, ground := Ground.phase }], guard := none }) (v := ?_) rfl (by kernel_rfl) (by kernel_rfl) (by kernel_rfl) (fun _ _ _ h => h) (Or.inl ⟨by rfl, ?_⟩) (by assumption) ?_
                    rotate_left
                    · intro w hSw; (try dsimp only at hSw); go_simp; first | done | with_reducible rfl
                    try simp only [Act.put, List.setIfInBounds_toArray, List.set_cons_zero, List.set_cons_succ]
                    refine wpAnyH_ready (rs := [22]) (by kernel_rfl) (by simp) ?_
                    refine (AllReadyH.cons (o := { dst := none, op := Op.store 38 (Operand.tmp 54) (Operand.tmp 52), type := 0, pos := "law.go:63", after := #[{ on := 21, ground := Ground.data }, { on := 19, ground := Ground.data }, { on := 19, ground := Ground.chain }, { on := 0, ground := Ground.phase }, { on := 1, ground := Ground.phase }, { on := 2, ground := Ground.phase }, { on := 3, ground := Ground.phase }, { on := 4, ground := Ground.phase }, { on := 5, ground := Ground.phase }, { on := 6, ground := Ground.phase }, { on := 7, ground := Ground.phase }, { on := 8, ground := Ground.phase }, { on := 9, ground := Ground.phase }, { on := 10, ground := Ground.phase }, { on := 11, ground := Ground.phase }, { on := 12, ground := Ground.phase }, { on := 13, ground := Ground.phase }, { on := 14, ground := Ground.phase }, { on := 15, ground := Ground.phase }, { on := 16, ground := Ground.phase }, { on := 17, ground := Ground.phase }, { on := 18, ground := Ground.phase }, { on := 19, ground := Ground.phase }], guard := none }) rfl (fun K hK => ?_) AllReadyH.nil)
                    have kbc : V7.cell? ⟨kb, 0, none⟩ = some (.slice oa Kn oc) := bb.out.2.1 0
                    have kbf : V7.frozen? ⟨kb, 0, none⟩ = false := bb.out.2.2 0
                    go_simp
                    clear hHeld
                    refine hK.out _ _ trivial (fun hHeld => ?_)
                    clear hK kbc kbf
                    try simp only [Act.put]
                    refine wpAnyH_done (by kernel_rfl) ?_ _
                    go_wp2_with fail
                    simp [bodyPost, results, Try.results26, go_sem]
                    exact ⟨gO, cO, xM, g1, c1, g2, c2, _, F0.out⟩
                  · skip
                    go_simp
                    have S1 : Hd (St w lo Kn k 0 (.slice va k vc) (.slice la (k + 60) lc) (k + 60) (some x1) (some x3) (some (g1, c1)) (some (g2, c2)) (some V4.heap.size) none (V4.alloc (.cells #[Value.slice va k vc, .slice (some ⟨g1, 0, none⟩) (k + 1) c1, .slice (some ⟨g2, 0, none⟩) (k + 3) c2, .slice la (k + 60) lc] 77))) := Hd.mk (S0.out.s17 77)
                    clear hHeld
                    refine hK.out _ _ trivial (fun hHeld => ?_)
                    clear hK S0
                    generalize V4.alloc (.cells #[Value.slice va k vc, .slice (some ⟨g1, 0, none⟩) (k + 1) c1, .slice (some ⟨g2, 0, none⟩) (k + 3) c2, .slice la (k + 60) lc] 77) = V5 at *
                    generalize V4.heap.size = xM at *
                    clear V4
                    have S0 := S1
                    clear S1
                    try simp only [Act.put, List.setIfInBounds_toArray, List.set_cons_zero, List.set_cons_succ]
                    refine wpAnyH_ready (rs := [4, 18]) (by kernel_rfl) (by simp) ?_
                    refine (AllReadyH.cons (o := { dst := some 37, op := Op.load 38 (Operand.tmp 36), type := 38, pos := "law.go:63", after := #[{ on := 3, ground := Ground.data }], guard := none }) rfl (fun K hK => ?_) (AllReadyH.cons (o := { dst := some 51, op := Op.buildSlice 38 1 #[(0, Operand.tmp 50)], type := 38, pos := "law.go:63", after := #[{ on := 17, ground := Ground.data }], guard := none }) rfl (fun K hK => ?_) AllReadyH.nil))
                    · skip
                      have kbc : V5.cell? ⟨kb, 0, none⟩ = some (.slice oa Kn oc) := (S0.out.kq.at_ A0.out (fun q => hkv.out kb q rfl)).2.1 0
                      go_simp
                      clear hHeld
                      refine hK.out _ _ trivial (fun hHeld => ?_)
                      clear hK kbc
                      try simp only [Act.put, List.setIfInBounds_toArray, List.set_cons_zero, List.set_cons_succ]
                      refine wpAnyH_ready (rs := [18]) (by kernel_rfl) (by simp) ?_
                      refine (AllReadyH.cons (o := { dst := some 51, op := Op.buildSlice 38 1 #[(0, Operand.tmp 50)], type := 38, pos := "law.go:63", after := #[{ on := 17, ground := Ground.data }], guard := none }) rfl (fun K hK => ?_) AllReadyH.nil)
                      go_simp
                      have S1 : Hd (St w lo Kn k 0 (.slice va k vc) (.slice la (k + 60) lc) (k + 60) (some x1) (some x3) (some (g1, c1)) (some (g2, c2)) (some xM) (some V5.heap.size) (V5.alloc (.cells #[Value.slice (some ⟨xM, 0, none⟩) 4 4] 82))) := Hd.mk (S0.out.s18 82)
                      clear hHeld
                      refine hK.out _ _ trivial (fun hHeld => ?_)
                      clear hK S0
                      generalize V5.alloc (.cells #[Value.slice (some ⟨xM, 0, none⟩) 4 4] 82) = V6 at *
                      generalize V5.heap.size = xX at *
                      clear V5
                      have S0 := S1
                      clear S1
                      try simp only [Act.put, List.setIfInBounds_toArray, List.set_cons_zero, List.set_cons_succ]
                      refine wpAnyH_ready (rs := [19]) (by kernel_rfl) (by simp) ?_
                      refine (AllReadyH.cons (o := { dst := some 52, op := Op.call { callee := Callee.builtin Builtin.append, args := #[Operand.tmp 37, Operand.tmp 51], argTypes := #[38, 38] }, type := 38, pos := "law.go:63", after := #[{ on := 4, ground := Ground.data }, { on := 18, ground := Ground.data }, { on := 15, ground := Ground.chain }], guard := none }) rfl (fun K hK => ?_) AllReadyH.nil)
                      rw [if_pos (by rfl)]
                      obtain ⟨M_, eM, bX, _⟩ := S0.out.xX xX rfl
                      cases eM
                      refine wp_append_1 (.tmp 37) (.tmp 51) rfl lo (.slice oa Kn oc) Kn rows (.slice (some ⟨xM, 0, none⟩) 4 4) rfl (S0.out.kq.own hO.out (fun g q => (hko.out g q).2)) xX rfl bX rfl hK1 (Nat.le_trans hlo S0.out.kq.size) ?_
                      intro gO cO V7 k1 k2 k3
                      have F0 := Hd.mk (S0.out.fin A0.out hO.out hkv.out hko.out hl3.out k1 k2 k3)
                      have bb : Hd (At V7 kb #[(.slice oa Kn oc)]) := Hd.mk (at_grown (S0.out.kq.at_ A0.out (fun q => hkv.out kb q rfl)) k2 (fun q => (hko.out kb q).1 rfl))
                      clear hHeld
                      refine hK.out _ _ trivial (fun hHeld => ?_)
                      clear hK k1 k2 k3 bX S0 V6
                      try simp only [Act.put, List.setIfInBounds_toArray, List.set_cons_zero, List.set_cons_succ]
                      refine wpAnyH_take (i := 20) (oi := { dst := some 53, op := Op.nilCheck (Operand.tmp 33), type := 0, pos := "law.go:63", after := #[{ on := 0, ground := Ground.data }, { on := 0, ground := Ground.phase }, { on := 1, ground := Ground.phase }, { on := 2, ground := Ground.phase }, { on := 3, ground := Ground.phase }, { on := 4, ground := Ground.phase }, { on := 5, ground := Ground.phase }, { on := 6, ground := Ground.phase }, { on := 7, ground := Ground.phase }, { on := 8, ground := Ground.phase }, { on := 9, ground := Ground.phase }, { on := 10, ground := Ground.phase }, { on := 11, ground := Ground.phase }, { on := 12, ground := Ground.phase }, { on := 13, ground := Ground.phase }, { on := 14, ground := Ground.phase }, { on := 15, ground := Ground.phase }, { on := 16, ground := Ground.phase }, { on := 17, ground := Ground.phase }, { on := 18, ground := Ground.phase }, { on := 19, ground := Ground.phase }], guard := none }) (v := ?_) rfl (by kernel_rfl) (by kernel_rfl) (by kernel_rfl) (fun _ _ _ h => h) (Or.inl ⟨by rfl, ?_⟩) (by assumption) ?_
                      rotate_left
                      · intro w hSw; (try dsimp only at hSw); go_simp; first | done | with_reducible rfl
                      try simp only [Act.put, List.setIfInBounds_toArray, List.set_cons_zero, List.set_cons_succ]
                      refine wpAnyH_take (i := 21) (oi := { dst := some 54, op := Op.fieldAddr 40 (Operand.tmp 53) 0, type := 0, pos := "law.go:63", after := #[{ on := 20, ground := Ground.data }, { on := 0, ground := Ground.phase }, { on := 1, ground := Ground.phase }, { on := 2, ground := Ground.phase }, { on := 3, ground := Ground.phase }, { on := 4, ground := Ground.phase }, { on := 5, ground := Ground.phase }, { on := 6, ground := Ground.phase }, { on := 7, ground := Ground.phase }, { on := 8, ground := Ground.phase }, { on := 9, ground := Ground.phase }, { on := 10, ground := Ground.phase }, { on := 11, ground := Ground.phase }, { on := 12, ground := Ground.phase }, { on := 13, ground := Ground.phase }, { on := 14, ground := Ground.phase }, { on := 15, ground := Ground.phase }, { on := 16, ground := Ground.phase }, { on := 17, ground := Ground.phase }, { on := 18, ground := Ground.phase }, { on := 19, ground := Ground.phase }], guard := none }) (v := ?_) rfl (by kernel_rfl) (by kernel_rfl) (by kernel_rfl) (fun _ _ _ h => h) (Or.inl ⟨by rfl, ?_⟩) (by assumption) ?_
                      rotate_left
                      · intro w hSw; (try dsimp only at hSw); go_simp; first | done | with_reducible rfl
                      try simp only [Act.put, List.setIfInBounds_toArray, List.set_cons_zero, List.set_cons_succ]
                      refine wpAnyH_ready (rs := [22]) (by kernel_rfl) (by simp) ?_
                      refine (AllReadyH.cons (o := { dst := none, op := Op.store 38 (Operand.tmp 54) (Operand.tmp 52), type := 0, pos := "law.go:63", after := #[{ on := 21, ground := Ground.data }, { on := 19, ground := Ground.data }, { on := 19, ground := Ground.chain }, { on := 0, ground := Ground.phase }, { on := 1, ground := Ground.phase }, { on := 2, ground := Ground.phase }, { on := 3, ground := Ground.phase }, { on := 4, ground := Ground.phase }, { on := 5, ground := Ground.phase }, { on := 6, ground := Ground.phase }, { on := 7, ground := Ground.phase }, { on := 8, ground := Ground.phase }, { on := 9, ground := Ground.phase }, { on := 10, ground := Ground.phase }, { on := 11, ground := Ground.phase }, { on := 12, ground := Ground.phase }, { on := 13, ground := Ground.phase }, { on := 14, ground := Ground.phase }, { on := 15, ground := Ground.phase }, { on := 16, ground := Ground.phase }, { on := 17, ground := Ground.phase }, { on := 18, ground := Ground.phase }, { on := 19, ground := Ground.phase }], guard := none }) rfl (fun K hK => ?_) AllReadyH.nil)
                      have kbc : V7.cell? ⟨kb, 0, none⟩ = some (.slice oa Kn oc) := bb.out.2.1 0
                      have kbf : V7.frozen? ⟨kb, 0, none⟩ = false := bb.out.2.2 0
                      go_simp
                      clear hHeld
                      refine hK.out _ _ trivial (fun hHeld => ?_)
                      clear hK kbc kbf
                      try simp only [Act.put]
                      refine wpAnyH_done (by kernel_rfl) ?_ _
                      go_wp2_with fail
                      simp [bodyPost, results, Try.results26, go_sem]
                      exact ⟨gO, cO, xM, g1, c1, g2, c2, _, F0.out⟩
                    · skip
                      go_simp
                      have S1 : Hd (St w lo Kn k 0 (.slice va k vc) (.slice la (k + 60) lc) (k + 60) (some x1) (some x3) (some (g1, c1)) (some (g2, c2)) (some xM) (some V5.heap.size) (V5.alloc (.cells #[Value.slice (some ⟨xM, 0, none⟩) 4 4] 82))) := Hd.mk (S0.out.s18 82)
                      clear hHeld
                      refine hK.out _ _ trivial (fun hHeld => ?_)
                      clear hK S0
                      generalize V5.alloc (.cells #[Value.slice (some ⟨xM, 0, none⟩) 4 4] 82) = V6 at *
                      generalize V5.heap.size = xX at *
                      clear V5
                      have S0 := S1
                      clear S1
                      try simp only [Act.put, List.setIfInBounds_toArray, List.set_cons_zero, List.set_cons_succ]
                      refine wpAnyH_ready (rs := [4]) (by kernel_rfl) (by simp) ?_
                      refine (AllReadyH.cons (o := { dst := some 37, op := Op.load 38 (Operand.tmp 36), type := 38, pos := "law.go:63", after := #[{ on := 3, ground := Ground.data }], guard := none }) rfl (fun K hK => ?_) AllReadyH.nil)
                      have kbc : V6.cell? ⟨kb, 0, none⟩ = some (.slice oa Kn oc) := (S0.out.kq.at_ A0.out (fun q => hkv.out kb q rfl)).2.1 0
                      go_simp
                      clear hHeld
                      refine hK.out _ _ trivial (fun hHeld => ?_)
                      clear hK kbc
                      try simp only [Act.put, List.setIfInBounds_toArray, List.set_cons_zero, List.set_cons_succ]
                      refine wpAnyH_ready (rs := [19]) (by kernel_rfl) (by simp) ?_
                      refine (AllReadyH.cons (o := { dst := some 52, op := Op.call { callee := Callee.builtin Builtin.append, args := #[Operand.tmp 37, Operand.tmp 51], argTypes := #[38, 38] }, type := 38, pos := "law.go:63", after := #[{ on := 4, ground := Ground.data }, { on := 18, ground := Ground.data }, { on := 15, ground := Ground.chain }], guard := none }) rfl (fun K hK => ?_) AllReadyH.nil)
                      rw [if_pos (by rfl)]
                      obtain ⟨M_, eM, bX, _⟩ := S0.out.xX xX rfl
                      cases eM
                      refine wp_append_1 (.tmp 37) (.tmp 51) rfl lo (.slice oa Kn oc) Kn rows (.slice (some ⟨xM, 0, none⟩) 4 4) rfl (S0.out.kq.own hO.out (fun g q => (hko.out g q).2)) xX rfl bX rfl hK1 (Nat.le_trans hlo S0.out.kq.size) ?_
                      intro gO cO V7 k1 k2 k3
                      have F0 := Hd.mk (S0.out.fin A0.out hO.out hkv.out hko.out hl3.out k1 k2 k3)
                      have bb : Hd (At V7 kb #[(.slice oa Kn oc)]) := Hd.mk (at_grown (S0.out.kq.at_ A0.out (fun q => hkv.out kb q rfl)) k2 (fun q => (hko.out kb q).1 rfl))
                      clear hHeld
                      refine hK.out _ _ trivial (fun hHeld => ?_)
                      clear hK k1 k2 k3 bX S0 V6
                      try simp only [Act.put, List.setIfInBounds_toArray, List.set_cons_zero, List.set_cons_succ]
                      refine wpAnyH_take (i := 20) (oi := { dst := some 53, op := Op.nilCheck (Operand.tmp 33), type := 0, pos := "law.go:63", after := #[{ on := 0, ground := Ground.data }, { on := 0, ground := Ground.phase }, { on := 1, ground := Ground.phase }, { on := 2, ground := Ground.phase }, { on := 3, ground := Ground.phase }, { on := 4, ground := Ground.phase }, { on := 5, ground := Ground.phase }, { on := 6, ground := Ground.phase }, { on := 7, ground := Ground.phase }, { on := 8, ground := Ground.phase }, { on := 9, ground := Ground.phase }, { on := 10, ground := Ground.phase }, { on := 11, ground := Ground.phase }, { on := 12, ground := Ground.phase }, { on := 13, ground := Ground.phase }, { on := 14, ground := Ground.phase }, { on := 15, ground := Ground.phase }, { on := 16, ground := Ground.phase }, { on := 17, ground := Ground.phase }, { on := 18, ground := Ground.phase }, { on := 19, ground := Ground.phase }], guard := none }) (v := ?_) rfl (by kernel_rfl) (by kernel_rfl) (by kernel_rfl) (fun _ _ _ h => h) (Or.inl ⟨by rfl, ?_⟩) (by assumption) ?_
                      rotate_left
                      · intro w hSw; (try dsimp only at hSw); go_simp; first | done | with_reducible rfl
                      try simp only [Act.put, List.setIfInBounds_toArray, List.set_cons_zero, List.set_cons_succ]
                      refine wpAnyH_take (i := 21) (oi := { dst := some 54, op := Op.fieldAddr 40 (Operand.tmp 53) 0, type := 0, pos := "law.go:63", after := #[{ on := 20, ground := Ground.data }, { on := 0, ground := Ground.phase }, { on := 1, ground := Ground.phase }, { on := 2, ground := Ground.phase }, { on := 3, ground := Ground.phase }, { on := 4, ground := Ground.phase }, { on := 5, ground := Ground.phase }, { on := 6, ground := Ground.phase }, { on := 7, ground := Ground.phase }, { on := 8, ground := Ground.phase }, { on := 9, ground := Ground.phase }, { on := 10, ground := Ground.phase }, { on := 11, ground := Ground.phase }, { on := 12, ground := Ground.phase }, { on := 13, ground := Ground.phase }, { on := 14, ground := Ground.phase }, { on := 15, ground := Ground.phase }, { on := 16, ground := Ground.phase }, { on := 17, ground := Ground.phase }, { on := 18, ground := Ground.phase }, { on := 19, ground := Ground.phase }], guard := none }) (v := ?_) rfl (by kernel_rfl) (by kernel_rfl) (by kernel_rfl) (fun _ _ _ h => h) (Or.inl ⟨by rfl, ?_⟩) (by assumption) ?_
                      rotate_left
                      · intro w hSw; (try dsimp only at hSw); go_simp; first | done | with_reducible rfl
                      try simp only [Act.put, List.setIfInBounds_toArray, List.set_cons_zero, List.set_cons_succ]
                      refine wpAnyH_ready (rs := [22]) (by kernel_rfl) (by simp) ?_
                      refine (AllReadyH.cons (o := { dst := none, op := Op.store 38 (Operand.tmp 54) (Operand.tmp 52), type := 0, pos := "law.go:63", after := #[{ on := 21, ground := Ground.data }, { on := 19, ground := Ground.data }, { on := 19, ground := Ground.chain }, { on := 0, ground := Ground.phase }, { on := 1, ground := Ground.phase }, { on := 2, ground := Ground.phase }, { on := 3, ground := Ground.phase }, { on := 4, ground := Ground.phase }, { on := 5, ground := Ground.phase }, { on := 6, ground := Ground.phase }, { on := 7, ground := Ground.phase }, { on := 8, ground := Ground.phase }, { on := 9, ground := Ground.phase }, { on := 10, ground := Ground.phase }, { on := 11, ground := Ground.phase }, { on := 12, ground := Ground.phase }, { on := 13, ground := Ground.phase }, { on := 14, ground := Ground.phase }, { on := 15, ground := Ground.phase }, { on := 16, ground := Ground.phase }, { on := 17, ground := Ground.phase }, { on := 18, ground := Ground.phase }, { on := 19, ground := Ground.phase }], guard := none }) rfl (fun K hK => ?_) AllReadyH.nil)
                      have kbc : V7.cell? ⟨kb, 0, none⟩ = some (.slice oa Kn oc) := bb.out.2.1 0
                      have kbf : V7.frozen? ⟨kb, 0, none⟩ = false := bb.out.2.2 0
                      go_simp
                      clear hHeld
                      refine hK.out _ _ trivial (fun hHeld => ?_)
                      clear hK kbc kbf
                      try simp only [Act.put]
                      refine wpAnyH_done (by kernel_rfl) ?_ _
                      go_wp2_with fail
                      simp [bodyPost, results, Try.results26, go_sem]
                      exact ⟨gO, cO, xM, g1, c1, g2, c2, _, F0.out⟩
            · skip
              go_simp
              have S1 : Hd (St w lo Kn k 0 (.slice va k vc) (.slice la (k + 60) lc) (k + 60) (some x1) (some V1.heap.size) none none none none (V1.alloc (.cells #[Value.int .u64 (mkN Kn), Value.int .u64 (mkN Kn), Value.int .u64 (mkN Kn)] 42))) := Hd.mk (S0.out.s14 42)
              clear hHeld
              refine hK.out _ _ trivial (fun hHeld => ?_)
              clear hK S0
              generalize V1.alloc (.cells #[Value.int .u64 (mkN Kn), Value.int .u64 (mkN Kn), Value.int .u64 (mkN Kn)] 42) = V2 at *
              generalize V1.heap.size = x3 at *
              clear V1
              have S0 := S1
              clear S1
              try simp only [Act.put, List.setIfInBounds_toArray, List.set_cons_zero, List.set_cons_succ]
              refine wpAnyH_ready (rs := [4, 9]) (by kernel_rfl) (by simp) ?_
              refine (AllReadyH.cons (o := { dst := some 37, op := Op.load 38 (Operand.tmp 36), type := 38, pos := "law.go:63", after := #[{ on := 3, ground := Ground.data }], guard := none }) rfl (fun K hK => ?_) (AllReadyH.cons (o := { dst := some 42, op := Op.call { callee := Callee.builtin Builtin.append, args := #[Operand.tmp 39, Operand.tmp 41], argTypes := #[77, 77] }, type := 77, pos := "law.go:63", after := #[{ on := 6, ground := Ground.data }, { on := 8, ground := Ground.data }], guard := none }) rfl (fun K hK => ?_) AllReadyH.nil))
              · skip
                have kbc : V2.cell? ⟨kb, 0, none⟩ = some (.slice oa Kn oc) := (S0.out.kq.at_ A0.out (fun q => hkv.out kb q rfl)).2.1 0
                go_simp
                clear hHeld
                refine hK.out _ _ trivial (fun hHeld => ?_)
                clear hK kbc
                try simp only [Act.put, List.setIfInBounds_toArray, List.set_cons_zero, List.set_cons_succ]
                refine wpAnyH_ready (rs := [9]) (by kernel_rfl) (by simp) ?_
                refine (AllReadyH.cons (o := { dst := some 42, op := Op.call { callee := Callee.builtin Builtin.append, args := #[Operand.tmp 39, Operand.tmp 41], argTypes := #[77, 77] }, type := 77, pos := "law.go:63", after := #[{ on := 6, ground := Ground.data }, { on := 8, ground := Ground.data }], guard := none }) rfl (fun K hK => ?_) AllReadyH.nil)
                rw [if_pos (by rfl)]
                refine wp_append_m (mkI Kn) (.tmp 39) (.tmp 41) 77 42 _ 8 rfl Try.underlying77 infoU64 rfl (mkI_pos Kn) (mkI_one Kn) lo (.slice va k vc) k rfl S0.out.ov x1 1 1 rfl (S0.out.x1 x1 rfl).1 (by decide) (by unfold maxLen; omega) (by omega) (Nat.le_trans hlo S0.out.kq.size) ?_
                intro g1 c1 V3 k1 k2 k3 k4 k5 k6
                have S1 : Hd (St w lo Kn k 0 (.slice va k vc) (.slice la (k + 60) lc) (k + 60) (some x1) (some x3) (some (g1, c1)) none none none V3) := Hd.mk (S0.out.a1 hvb.out k1 k2 k3 k5 k6)
                clear hHeld
                refine hK.out _ _ trivial (fun hHeld => ?_)
                clear hK k1 k2 k3 k4 k5 k6 S0 V2
                have S0 := S1
                clear S1
                try simp only [Act.put, List.setIfInBounds_toArray, List.set_cons_zero, List.set_cons_succ]
                refine wpAnyH_ready (rs := [15]) (by kernel_rfl) (by simp) ?_
                refine (AllReadyH.cons (o := { dst := some 48, op := Op.call { callee := Callee.builtin Builtin.append, args := #[Operand.tmp 43, Operand.tmp 47], argTypes := #[77, 77] }, type := 77, pos := "law.go:63", after := #[{ on := 10, ground := Ground.data }, { on := 14, ground := Ground.data }, { on := 9, ground := Ground.chain }], guard := none }) rfl (fun K hK => ?_) AllReadyH.nil)
                rw [if_pos (by rfl)]
                refine wp_append_m (mkI Kn) (.tmp 43) (.tmp 47) 77 42 _ 8 rfl Try.underlying77 infoU64 rfl (mkI_pos Kn) (mkI_one Kn) lo (.slice va k vc) k rfl S0.out.ov x3 3 3 rfl (S0.out.x3 x3 rfl).1 (by decide) (by unfold maxLen; omega) (by omega) (Nat.le_trans hlo S0.out.kq.size) ?_
                intro g2 c2 V4 k1 k2 k3 k4 k5 k6
                have S1 : Hd (St w lo Kn k 0 (.slice va k vc) (.slice la (k + 60) lc) (k + 60) (some x1) (some x3) (some (g1, c1)) (some (g2, c2)) none none V4) := Hd.mk (S0.out.a2 hvb.out k1 k2 k3 k5 k6)
                clear hHeld
                refine hK.out _ _ trivial (fun hHeld => ?_)
                clear hK k1 k2 k3 k4 k5 k6 S0 V3
                have S0 := S1
                clear S1
                try simp only [Act.put, List.setIfInBounds_toArray, List.set_cons_zero, List.set_cons_succ]
                refine wpAnyH_ready (rs := [17]) (by kernel_rfl) (by simp) ?_
                refine (AllReadyH.cons (o := { dst := some 50, op := Op.buildSlice 82 4 #[(0, Operand.tmp 38), (1, Operand.tmp 42), (2, Operand.tmp 48), (3, Operand.tmp 49)], type := 82, pos := "law.go:63", after := #[{ on := 5, ground := Ground.data }, { on := 9, ground := Ground.data }, { on := 15, ground := Ground.data }, { on := 16, ground := Ground.data }], guard := none }) rfl (fun K hK => ?_) AllReadyH.nil)
                go_simp
                have S1 : Hd (St w lo Kn k 0 (.slice va k vc) (.slice la (k + 60) lc) (k + 60) (some x1) (some x3) (some (g1, c1)) (some (g2, c2)) (some V4.heap.size) none (V4.alloc (.cells #[Value.slice va k vc, .slice (some ⟨g1, 0, none⟩) (k + 1) c1, .slice (some ⟨g2, 0, none⟩) (k + 3) c2, .slice la (k + 60) lc] 77))) := Hd.mk (S0.out.s17 77)
                clear hHeld
                refine hK.out _ _ trivial (fun hHeld => ?_)
                clear hK S0
                generalize V4.alloc (.cells #[Value.slice va k vc, .slice (some ⟨g1, 0, none⟩) (k + 1) c1, .slice (some ⟨g2, 0, none⟩) (k + 3) c2, .slice la (k + 60) lc] 77) = V5 at *
                generalize V4.heap.size = xM at *
                clear V4
                have S0 := S1
                clear S1
                try simp only [Act.put, List.setIfInBounds_toArray, List.set_cons_zero, List.set_cons_succ]
                refine wpAnyH_ready (rs := [18]) (by kernel_rfl) (by simp) ?_
                refine (AllReadyH.cons (o := { dst := some 51, op := Op.buildSlice 38 1 #[(0, Operand.tmp 50)], type := 38, pos := "law.go:63", after := #[{ on := 17, ground := Ground.data }], guard := none }) rfl (fun K hK => ?_) AllReadyH.nil)
                go_simp
                have S1 : Hd (St w lo Kn k 0 (.slice va k vc) (.slice la (k + 60) lc) (k + 60) (some x1) (some x3) (some (g1, c1)) (some (g2, c2)) (some xM) (some V5.heap.size) (V5.alloc (.cells #[Value.slice (some ⟨xM, 0, none⟩) 4 4] 82))) := Hd.mk (S0.out.s18 82)
                clear hHeld
                refine hK.out _ _ trivial (fun hHeld => ?_)
                clear hK S0
                generalize V5.alloc (.cells #[Value.slice (some ⟨xM, 0, none⟩) 4 4] 82) = V6 at *
                generalize V5.heap.size = xX at *
                clear V5
                have S0 := S1
                clear S1
                try simp only [Act.put, List.setIfInBounds_toArray, List.set_cons_zero, List.set_cons_succ]
                refine wpAnyH_ready (rs := [19]) (by kernel_rfl) (by simp) ?_
                refine (AllReadyH.cons (o := { dst := some 52, op := Op.call { callee := Callee.builtin Builtin.append, args := #[Operand.tmp 37, Operand.tmp 51], argTypes := #[38, 38] }, type := 38, pos := "law.go:63", after := #[{ on := 4, ground := Ground.data }, { on := 18, ground := Ground.data }, { on := 15, ground := Ground.chain }], guard := none }) rfl (fun K hK => ?_) AllReadyH.nil)
                rw [if_pos (by rfl)]
                obtain ⟨M_, eM, bX, _⟩ := S0.out.xX xX rfl
                cases eM
                refine wp_append_1 (.tmp 37) (.tmp 51) rfl lo (.slice oa Kn oc) Kn rows (.slice (some ⟨xM, 0, none⟩) 4 4) rfl (S0.out.kq.own hO.out (fun g q => (hko.out g q).2)) xX rfl bX rfl hK1 (Nat.le_trans hlo S0.out.kq.size) ?_
                intro gO cO V7 k1 k2 k3
                have F0 := Hd.mk (S0.out.fin A0.out hO.out hkv.out hko.out hl3.out k1 k2 k3)
                have bb : Hd (At V7 kb #[(.slice oa Kn oc)]) := Hd.mk (at_grown (S0.out.kq.at_ A0.out (fun q => hkv.out kb q rfl)) k2 (fun q => (hko.out kb q).1 rfl))
                clear hHeld
                refine hK.out _ _ trivial (fun hHeld => ?_)
                clear hK k1 k2 k3 bX S0 V6
                try simp only [Act.put, List.setIfInBounds_toArray, List.set_cons_zero, List.set_cons_succ]
                refine wpAnyH_take (i := 20) (oi := { dst := some 53, op := Op.nilCheck (Operand.tmp 33), type := 0, pos := "law.go:63", after := #[{ on := 0, ground := Ground.data }, { on := 0, ground := Ground.phase }, { on := 1, ground := Ground.phase }, { on := 2, ground := Ground.phase }, { on := 3, ground := Ground.phase }, { on := 4, ground := Ground.phase }, { on := 5, ground := Ground.phase }, { on := 6, ground := Ground.phase }, { on := 7, ground := Ground.phase }, { on := 8, ground := Ground.phase }, { on := 9, ground := Ground.phase }, { on := 10, ground := Ground.phase }, { on := 11, ground := Ground.phase }, { on := 12, ground := Ground.phase }, { on := 13, ground := Ground.phase }, { on := 14, ground := Ground.phase }, { on := 15, ground := Ground.phase }, { on := 16, ground := Ground.phase }, { on := 17, ground := Ground.phase }, { on := 18, ground := Ground.phase }, { on := 19, ground := Ground.phase }], guard := none }) (v := ?_) rfl (by kernel_rfl) (by kernel_rfl) (by kernel_rfl) (fun _ _ _ h => h) (Or.inl ⟨by rfl, ?_⟩) (by assumption) ?_
                rotate_left
                · intro w hSw; (try dsimp only at hSw); go_simp; first | done | with_reducible rfl
                try simp only [Act.put, List.setIfInBounds_toArray, List.set_cons_zero, List.set_cons_succ]
                refine wpAnyH_take (i := 21) (oi := { dst := some 54, op := Op.fieldAddr 40 (Operand.tmp 53) 0, type := 0, pos := "law.go:63", after := #[{ on := 20, ground := Ground.data }, { on := 0, ground := Ground.phase }, { on := 1, ground := Ground.phase }, { on := 2, ground := Ground.phase }, { on := 3, ground := Ground.phase }, { on := 4, ground := Ground.phase }, { on := 5, ground := Ground.phase }, { on := 6, ground := Ground.phase }, { on := 7, ground := Ground.phase }, { on := 8, ground := Ground.phase }, { on := 9, ground := Ground.phase }, { on := 10, ground := Ground.phase }, { on := 11, ground := Ground.phase }, { on := 12, ground := Ground.phase }, { on := 13, ground := Ground.phase }, { on := 14, ground := Ground.phase }, { on := 15, ground := Ground.phase }, { on := 16, ground := Ground.phase }, { on := 17, ground := Ground.phase }, { on := 18, ground := Ground.phase }, { on := 19, ground := Ground.phase }], guard := none }) (v := ?_) rfl (by kernel_rfl) (by kernel_rfl) (by kernel_rfl) (fun _ _ _ h => h) (Or.inl ⟨by rfl, ?_⟩) (by assumption) ?_
                rotate_left
                · intro w hSw; (try dsimp only at hSw); go_simp; first | done | with_reducible rfl
                try simp only [Act.put, List.setIfInBounds_toArray, List.set_cons_zero, List.set_cons_succ]
                refine wpAnyH_ready (rs := [22]) (by kernel_rfl) (by simp) ?_
                refine (AllReadyH.cons (o := { dst := none, op := Op.store 38 (Operand.tmp 54) (Operand.tmp 52), type := 0, pos := "law.go:63", after := #[{ on := 21, ground := Ground.data }, { on := 19, ground := Ground.data }, { on := 19, ground := Ground.chain }, { on := 0, ground := Ground.phase }, { on := 1, ground := Ground.phase }, { on := 2, ground := Ground.phase }, { on := 3, ground := Ground.phase }, { on := 4, ground := Ground.phase }, { on := 5, ground := Ground.phase }, { on := 6, ground := Ground.phase }, { on := 7, ground := Ground.phase }, { on := 8, ground := Ground.phase }, { on := 9, ground := Ground.phase }, { on := 10, ground := Ground.phase }, { on := 11, ground := Ground.phase }, { on := 12, ground := Ground.phase }, { on := 13, ground := Ground.phase }, { on := 14, ground := Ground.phase }, { on := 15, ground := Ground.phase }, { on := 16, ground := Ground.phase }, { on := 17, ground := Ground.phase }, { on := 18, ground := Ground.phase }, { on := 19, ground := Ground.phase }], guard := none }) rfl (fun K hK => ?_) AllReadyH.nil)
                have kbc : V7.cell? ⟨kb, 0, none⟩ = some (.slice oa Kn oc) := bb.out.2.1 0
                have kbf : V7.frozen? ⟨kb, 0, none⟩ = false := bb.out.2.2 0
                go_simp
                clear hHeld
                refine hK.out _ _ trivial (fun hHeld => ?_)
                clear hK kbc kbf
                try simp only [Act.put]
                refine wpAnyH_done (by kernel_rfl) ?_ _
                go_wp2_with fail
                simp [bodyPost, results, Try.results26, go_sem]
                exact ⟨gO, cO, xM, g1, c1, g2, c2, _, F0.out⟩
              · skip
                rw [if_pos (by rfl)]
                refine wp_append_m (mkI Kn) (.tmp 39) (.tmp 41) 77 42 _ 8 rfl Try.underlying77 infoU64 rfl (mkI_pos Kn) (mkI_one Kn) lo (.slice va k vc) k rfl S0.out.ov x1 1 1 rfl (S0.out.x1 x1 rfl).1 (by decide) (by unfold maxLen; omega) (by omega) (Nat.le_trans hlo S0.out.kq.size) ?_
                intro g1 c1 V3 k1 k2 k3 k4 k5 k6
                have S1 : Hd (St w lo Kn k 0 (.slice va k vc) (.slice la (k + 60) lc) (k + 60) (some x1) (some x3) (some (g1, c1)) none none none V3) := Hd.mk (S0.out.a1 hvb.out k1 k2 k3 k5 k6)
                clear hHeld
                refine hK.out _ _ trivial (fun hHeld => ?_)
                clear hK k1 k2 k3 k4 k5 k6 S0 V2
                have S0 := S1
                clear S1
                try simp only [Act.put, List.setIfInBounds_toArray, List.set_cons_zero, List.set_cons_succ]
                refine wpAnyH_ready (rs := [4, 15]) (by kernel_rfl) (by simp) ?_
                refine (AllReadyH.cons (o := { dst := some 37, op := Op.load 38 (Operand.tmp 36), type := 38, pos := "law.go:63", after := #[{ on := 3, ground := Ground.data }], guard := none }) rfl (fun K hK => ?_) (AllReadyH.cons (o := { dst := some 48, op := Op.call { callee := Callee.builtin Builtin.append, args := #[Operand.tmp 43, Operand.tmp 47], argTypes := #[77, 77] }, type := 77, pos := "law.go:63", after := #[{ on := 10, ground := Ground.data }, { on := 14, ground := Ground.data }, { on := 9, ground := Ground.chain }], guard := none }) rfl (fun K hK => ?_) AllReadyH.nil))
                · skip
                  have kbc : V3.cell? ⟨kb, 0, none⟩ = some (.slice oa Kn oc) := (S0.out.kq.at_ A0.out (fun q => hkv.out kb q rfl)).2.1 0
                  go_simp
                  clear hHeld
                  refine hK.out _ _ trivial (fun hHeld => ?_)
                  clear hK kbc
                  try simp only [Act.put, List.setIfInBounds_toArray, List.set_cons_zero, List.set_cons_succ]
                  refine wpAnyH_ready (rs := [15]) (by kernel_rfl) (by simp) ?_
                  refine (AllReadyH.cons (o := { dst := some 48, op := Op.call { callee := Callee.builtin Builtin.append, args := #[Operand.tmp 43, Operand.tmp 47], argTypes := #[77, 77] }, type := 77, pos := "law.go:63", after := #[{ on := 10, ground := Ground.data }, { on := 14, ground := Ground.data }, { on := 9, ground := Ground.chain }], guard := none }) rfl (fun K hK => ?_) AllReadyH.nil)
                  rw [if_pos (by rfl)]
                  refine wp_append_m (mkI Kn) (.tmp 43) (.tmp 47) 77 42 _ 8 rfl Try.underlying77 infoU64 rfl (mkI_pos Kn) (mkI_one Kn) lo (.slice va k vc) k rfl S0.out.ov x3 3 3 rfl (S0.out.x3 x3 rfl).1 (by decide) (by unfold maxLen; omega) (by omega) (Nat.le_trans hlo S0.out.kq.size) ?_
                  intro g2 c2 V4 k1 k2 k3 k4 k5 k6
                  have S1 : Hd (St w lo Kn k 0 (.slice va k vc) (.slice la (k + 60) lc) (k + 60) (some x1) (some x3) (some (g1, c1)) (some (g2, c2)) none none V4) := Hd.mk (S0.out.a2 hvb.out k1 k2 k3 k5 k6)
                  clear hHeld
                  refine hK.out _ _ trivial (fun hHeld => ?_)
                  clear hK k1 k2 k3 k4 k5 k6 S0 V3
                  have S0 := S1
                  clear S1
                  try simp only [Act.put, List.setIfInBounds_toArray, List.set_cons_zero, List.set_cons_succ]
                  refine wpAnyH_ready (rs := [17]) (by kernel_rfl) (by simp) ?_
                  refine (AllReadyH.cons (o := { dst := some 50, op := Op.buildSlice 82 4 #[(0, Operand.tmp 38), (1, Operand.tmp 42), (2, Operand.tmp 48), (3, Operand.tmp 49)], type := 82, pos := "law.go:63", after := #[{ on := 5, ground := Ground.data }, { on := 9, ground := Ground.data }, { on := 15, ground := Ground.data }, { on := 16, ground := Ground.data }], guard := none }) rfl (fun K hK => ?_) AllReadyH.nil)
                  go_simp
                  have S1 : Hd (St w lo Kn k 0 (.slice va k vc) (.slice la (k + 60) lc) (k + 60) (some x1) (some x3) (some (g1, c1)) (some (g2, c2)) (some V4.heap.size) none (V4.alloc (.cells #[Value.slice va k vc, .slice (some ⟨g1, 0, none⟩) (k + 1) c1, .slice (some ⟨g2, 0, none⟩) (k + 3) c2, .slice la (k + 60) lc] 77))) := Hd.mk (S0.out.s17 77)
                  clear hHeld
                  refine hK.out _ _ trivial (fun hHeld => ?_)
                  clear hK S0
                  generalize V4.alloc (.cells #[Value.slice va k vc, .slice (some ⟨g1, 0, none⟩) (k + 1) c1, .slice (some ⟨g2, 0, none⟩) (k + 3) c2, .slice la (k + 60) lc] 77) = V5 at *
                  generalize V4.heap.size = xM at *
                  clear V4
                  have S0 := S1
                  clear S1
                  try simp only [Act.put, List.setIfInBounds_toArray, List.set_cons_zero, List.set_cons_succ]
                  refine wpAnyH_ready (rs := [18]) (by kernel_rfl) (by simp) ?_
                  refine (AllReadyH.cons (o := { dst := some 51, op := Op.buildSlice 38 1 #[(0, Operand.tmp 50)], type := 38, pos := "law.go:63", after := #[{ on := 17, ground := Ground.data }], guard := none }) rfl (fun K hK => ?_) AllReadyH.nil)
                  go_simp
                  have S1 : Hd (St w lo Kn k 0 (.slice va k vc) (.slice la (k + 60) lc) (k + 60) (some x1) (some x3) (some (g1, c1)) (some (g2, c2)) (some xM) (some V5.heap.size) (V5.alloc (.cells #[Value.slice (some ⟨xM, 0, none⟩) 4 4] 82))) := Hd.mk (S0.out.s18 82)
                  clear hHeld
                  refine hK.out _ _ trivial (fun hHeld => ?_)
                  clear hK S0
                  generalize V5.alloc (.cells #[Value.slice (some ⟨xM, 0, none⟩) 4 4] 82) = V6 at *
                  generalize V5.heap.size = xX at *
                  clear V5
                  have S0 := S1
                  clear S1
                  try simp only [Act.put, List.setIfInBounds_toArray, List.set_cons_zero, List.set_cons_succ]
                  refine wpAnyH_ready (rs := [19]) (by kernel_rfl) (by simp) ?_
                  refine (AllReadyH.cons (o := { dst := some 52, op := Op.call { callee := Callee.builtin Builtin.append, args := #[Operand.tmp 37, Operand.tmp 51], argTypes := #[38, 38] }, type := 38, pos := "law.go:63", after := #[{ on := 4, ground := Ground.data }, { on := 18, ground := Ground.data }, { on := 15, ground := Ground.chain }], guard := none }) rfl (fun K hK => ?_) AllReadyH.nil)
                  rw [if_pos (by rfl)]
                  obtain ⟨M_, eM, bX, _⟩ := S0.out.xX xX rfl
                  cases eM
                  refine wp_append_1 (.tmp 37) (.tmp 51) rfl lo (.slice oa Kn oc) Kn rows (.slice (some ⟨xM, 0, none⟩) 4 4) rfl (S0.out.kq.own hO.out (fun g q => (hko.out g q).2)) xX rfl bX rfl hK1 (Nat.le_trans hlo S0.out.kq.size) ?_
                  intro gO cO V7 k1 k2 k3
                  have F0 := Hd.mk (S0.out.fin A0.out hO.out hkv.out hko.out hl3.out k1 k2 k3)
                  have bb : Hd (At V7 kb #[(.slice oa Kn oc)]) := Hd.mk (at_grown (S0.out.kq.at_ A0.out (fun q => hkv.out kb q rfl)) k2 (fun q => (hko.out kb q).1 rfl))
                  clear hHeld
                  refine hK.out _ _ trivial (fun hHeld => ?_)
                  clear hK k1 k2 k3 bX S0 V6
                  try simp only [Act.put, List.setIfInBounds_toArray, List.set_cons_zero, List.set_cons_succ]
                  refine wpAnyH_take (i := 20) (oi := { dst := some 53, op := Op.nilCheck (Operand.tmp 33), type := 0, pos := "law.go:63", after := #[{ on := 0, ground := Ground.data }, { on := 0, ground := Ground.phase }, { on := 1, ground := Ground.phase }, { on := 2, ground := Ground.phase }, { on := 3, ground := Ground.phase }, { on := 4, ground := Ground.phase }, { on := 5, ground := Ground.phase }, { on := 6, ground := Ground.phase }, { on := 7, ground := Ground.phase }, { on := 8, ground := Ground.phase }, { on := 9, ground := Ground.phase }, { on := 10, ground := Ground.phase }, { on := 11, ground := Ground.phase }, { on := 12, ground := Ground.phase }, { on := 13, ground := Ground.phase }, { on := 14, ground := Ground.phase }, { on := 15, ground := Ground.phase }, { on := 16, ground := Ground.phase }, { on := 17, ground := Ground.phase }, { on := 18, ground := Ground.phase }, { on := 19, ground := Ground.phase }], guard := none }) (v := ?_) rfl (by kernel_rfl) (by kernel_rfl) (by kernel_rfl) (fun _ _ _ h => h) (Or.inl ⟨by rfl, ?_⟩) (by assumption) ?_
                  rotate_left
                  · intro w hSw; (try dsimp only at hSw); go_simp; first | done | with_reducible rfl
                  try simp only [Act.put, List.setIfInBounds_toArray, List.set_cons_zero, List.set_cons_succ]
                  refine wpAnyH_take (i := 21) (oi := { dst := some 54, op := Op.fieldAddr 40 (Operand.tmp 53) 0, type := 0, pos := "law.go:63", after := #[{ on := 20, ground := Ground.data }, { on := 0, ground := Ground.phase }, { on := 1, ground := Ground.phase }, { on := 2, ground := Ground.phase }, { on := 3, ground := Ground.phase }, { on := 4, ground := Ground.phase }, { on := 5, ground := Ground.phase }, { on := 6, ground := Ground.phase }, { on := 7, ground := Ground.phase }, { on := 8, ground := Ground.phase }, { on := 9, ground := Ground.phase }, { on := 10, ground := Ground.phase }, { on := 11, ground := Ground.phase }, { on := 12, ground := Ground.phase }, { on := 13, ground := Ground.phase }, { on := 14, ground := Ground.phase }, { on := 15, ground := Ground.phase }, { on := 16, ground := Ground.phase }, { on := 17, ground := Ground.phase }, { on := 18, ground := Ground.phase }, { on := 19, ground := Ground.phase }], guard := none }) (v := ?_) rfl (by kernel_rfl) (by kernel_rfl) (by kernel_rfl) (fun _ _ _ h => h) (Or.inl ⟨by rfl, ?_⟩) (by assumption) ?_
                  rotate_left
                  · intro w hSw; (try dsimp only at hSw); go_simp; first | done | with_reducible rfl
                  try simp only [Act.put, List.setIfInBounds_toArray, List.set_cons_zero, List.set_cons_succ]
                  refine wpAnyH_ready (rs := [22]) (by kernel_rfl) (by simp) ?_
                  refine (AllReadyH.cons (o := { dst := none, op := Op.store 38 (Operand.tmp 54) (Operand.tmp 52), type := 0, pos := "law.go:63", after := #[{ on := 21, ground := Ground.data }, { on := 19, ground := Ground.data }, { on := 19, ground := Ground.chain }, { on := 0, ground := Ground.phase }, { on := 1, ground := Ground.phase }, { on := 2, ground := Ground.phase }, { on := 3, ground := Ground.phase }, { on := 4, ground := Ground.phase }, { on := 5, ground := Ground.phase }, { on := 6, ground := Ground.phase }, { on := 7, ground := Ground.phase }, { on := 8, ground := Ground.phase }, { on := 9, ground := Ground.phase }, { on := 10, ground := Ground.phase }, { on := 11, ground := Ground.phase }, { on := 12, ground := Ground.phase }, { on := 13, ground := Ground.phase }, { on := 14, ground := Ground.phase }, { on := 15, ground := Ground.phase }, { on := 16, ground := Ground.phase }, { on := 17, ground := Ground.phase }, { on := 18, ground := Ground.phase }, { on := 19, ground := Ground.phase }], guard := none }) rfl (fun K hK => ?_) AllReadyH.nil)
                  have kbc : V7.cell? ⟨kb, 0, none⟩ = some (.slice oa Kn oc) := bb.out.2.1 0
                  have kbf : V7.frozen? ⟨kb, 0, none⟩ = false := bb.out.2.2 0
                  go_simp
                  clear hHeld
                  refine hK.out _ _ trivial (fun hHeld => ?_)
                  clear hK kbc kbf
                  try simp only [Act.put]
                  refine wpAnyH_done (by kernel_rfl) ?_ _
                  go_wp2_with fail
                  simp [bodyPost, results, Try.results26, go_sem]
                  exact ⟨gO, cO, xM, g1, c1, g2, c2, _, F0.out⟩
                · skip
                  rw [if_pos (by rfl)]
                  refine wp_append_m (mkI Kn) (.tmp 43) (.tmp 47) 77 42 _ 8 rfl Try.underlying77 infoU64 rfl (mkI_pos Kn) (mkI_one Kn) lo (.slice va k vc) k rfl S0.out.ov x3 3 3 rfl (S0.out.x3 x3 rfl).1 (by decide) (by unfold maxLen; omega) (by omega) (Nat.le_trans hlo S0.out.kq.size) ?_
                  intro g2 c2 V4 k1 k2 k3 k4 k5 k6
                  have S1 : Hd (St w lo Kn k 0 (.slice va k vc) (.slice la (k + 60) lc) (k + 60) (some x1) (some x3) (some (g1, c1)) (some (g2, c2)) none none V4) := Hd.mk (S0.out.a2 hvb.out k1 k2 k3 k5 k6)
                  clear hHeld
                  refine hK.out _ _ trivial (fun hHeld => ?_)
                  clear hK k1 k2 k3 k4 k5 k6 S0 V3
                  have S0 := S1
                  clear S1
                  try simp only [Act.put, List.setIfInBounds_toArray, List.set_cons_zero, List.set_cons_succ]
                  refine wpAnyH_ready (rs := [4, 17]) (by kernel_rfl) (by simp) ?_
                  refine (AllReadyH.cons (o := { dst := some 37, op := Op.load 38 (Operand.tmp 36), type := 38, pos := "law.go:63", after := #[{ on := 3, ground := Ground.data }], guard := none }) rfl (fun K hK => ?_) (AllReadyH.cons (o := { dst := some 50, op := Op.buildSlice 82 4 #[(0, Operand.tmp 38), (1, Operand.tmp 42), (2, Operand.tmp 48), (3, Operand.tmp 49)], type := 82, pos := "law.go:63", after := #[{ on := 5, ground := Ground.data }, { on := 9, ground := Ground.data }, { on := 15, ground := Ground.data }, { on := 16, ground := Ground.data }], guard := none }) rfl (fun K hK => ?_) AllReadyH.nil))
                  · skip
                    have kbc : V4.cell? ⟨kb, 0, none⟩ = some (.slice oa Kn oc) := (S0.out.kq.at_ A0.out (fun q => hkv.out kb q rfl)).2.1 0
                    go_simp
                    clear hHeld
                    refine hK.out _ _ trivial (fun hHeld => ?_)
                    clear hK kbc
                    try simp only [Act.put, List.setIfInBounds_toArray, List.set_cons_zero, List.set_cons_succ]
                    refine wpAnyH_ready (rs := [17]) (by kernel_rfl) (by simp) ?_
                    refine (AllReadyH.cons (o := { dst := some 50, op := Op.buildSlice 82 4 #[(0, Operand.tmp 38), (1, Operand.tmp 42), (2, Operand.tmp 48), (3, Operand.tmp 49)], type := 82, pos := "law.go:63", after := #[{ on := 5, ground := Ground.data }, { on := 9, ground := Ground.data }, { on := 15, ground := Ground.data }, { on := 16, ground := Ground.data }], guard := none }) rfl (fun K hK => ?_) AllReadyH.nil)
                    go_simp
                    have S1 : Hd (St w lo Kn k 0 (.slice va k vc) (.slice la (k + 60) lc) (k + 60) (some x1) (some x3) (some (g1, c1)) (some (g2, c2)) (some V4.heap.size) none (V4.alloc (.cells #[Value.slice va k vc, .slice (some ⟨g1, 0, none⟩) (k + 1) c1, .slice (some ⟨g2, 0, none⟩) (k + 3) c2, .slice la (k + 60) lc] 77))) := Hd.mk (S0.out.s17 77)
                    clear hHeld
                    refine hK.out _ _ trivial (fun hHeld => ?_)
                    clear hK S0
                    generalize V4.alloc (.cells #[Value.slice va k vc, .slice (some ⟨g1, 0, none⟩) (k + 1) c1, .slice (some ⟨g2, 0, none⟩) (k + 3) c2, .slice la (k + 60) lc] 77) = V5 at *
                    generalize V4.heap.size = xM at *
                    clear V4
                    have S0 := S1
                    clear S1
                    try simp only [Act.put, List.setIfInBounds_toArray, List.set_cons_zero, List.set_cons_succ]
                    refine wpAnyH_ready (rs := [18]) (by kernel_rfl) (by simp) ?_
                    refine (AllReadyH.cons (o := { dst := some 51, op := Op.buildSlice 38 1 #[(0, Operand.tmp 50)], type := 38, pos := "law.go:63", after := #[{ on := 17, ground := Ground.data }], guard := none }) rfl (fun K hK => ?_) AllReadyH.nil)
                    go_simp
                    have S1 : Hd (St w lo Kn k 0 (.slice va k vc) (.slice la (k + 60) lc) (k + 60) (some x1) (some x3) (some (g1, c1)) (some (g2, c2)) (some xM) (some V5.heap.size) (V5.alloc (.cells #[Value.slice (some ⟨xM, 0, none⟩) 4 4] 82))) := Hd.mk (S0.out.s18 82)
                    clear hHeld
                    refine hK.out _ _ trivial (fun hHeld => ?_)
                    clear hK S0
                    generalize V5.alloc (.cells #[Value.slice (some ⟨xM, 0, none⟩) 4 4] 82) = V6 at *
                    generalize V5.heap.size = xX at *
                    clear V5
                    have S0 := S1
                    clear S1
                    try simp only [Act.put, List.setIfInBounds_toArray, List.set_cons_zero, List.set_cons_succ]
                    refine wpAnyH_ready (rs := [19]) (by kernel_rfl) (by simp) ?_
                    refine (AllReadyH.cons (o := { dst := some 52, op := Op.call { callee := Callee.builtin Builtin.append, args := #[Operand.tmp 37, Operand.tmp 51], argTypes := #[38, 38] }, type := 38, pos := "law.go:63", after := #[{ on := 4, ground := Ground.data }, { on := 18, ground := Ground.data }, { on := 15, ground := Ground.chain }], guard := none }) rfl (fun K hK => ?_) AllReadyH.nil)
                    rw [if_pos (by rfl)]
                    obtain ⟨M_, eM, bX, _⟩ := S0.out.xX xX rfl
                    cases eM
                    refine wp_append_1 (.tmp 37) (.tmp 51) rfl lo (.slice oa Kn oc) Kn rows (.slice (some ⟨xM, 0, none⟩) 4 4) rfl (S0.out.kq.own hO.out (fun g q => (hko.out g q).2)) xX rfl bX rfl hK1 (Nat.le_trans hlo S0.out.kq.size) ?_
                    intro gO cO V7 k1 k2 k3
                    have F0 := Hd.mk (S0.out.fin A0.out hO.out hkv.out hko.out hl3.out k1 k2 k3)
                    have bb : Hd (At V7 kb #[(.slice oa Kn oc)]) := Hd.mk (at_grown (S0.out.kq.at_ A0.out (fun q => hkv.out kb q rfl)) k2 (fun q => (hko.out kb q).1 rfl))
                    clear hHeld
                    refine hK.out _ _ trivial (fun hHeld => ?_)
                    clear hK k1 k2 k3 bX S0 V6
                    try simp only [Act.put, List.setIfInBounds_toArray, List.set_cons_zero, List.set_cons_succ]
                    refine wpAnyH_take (i := 20) (oi := { dst := some 53, op := Op.nilCheck (Operand.tmp 33), type := 0, pos := "law.go:63", after := #[{ on := 0, ground := Ground.data }, { on := 0, ground := Ground.phase }, { on := 1, ground := Ground.phase }, { on := 2, ground := Ground.phase }, { on := 3, ground := Ground.phase }, { on := 4, ground := Ground.phase }, { on := 5, ground := Ground.phase }, { on := 6, ground := Ground.phase }, { on := 7, ground := Ground.phase }, { on := 8, ground := Ground.phase }, { on := 9, ground := Ground.phase }, { on := 10, ground := Ground.phase }, { on := 11, ground := Ground.phase }, { on := 12, ground := Ground.phase }, { on := 13, ground := Ground.phase }, { on := 14, ground := Ground.phase }, { on := 15, ground := Ground.phase }, { on := 16, ground := Ground.phase }, { on := 17, ground := Ground.phase }, { on := 18, ground := Ground.phase }, { on := 19, ground := Ground.phase }], guard := none }) (v := ?_) rfl (by kernel_rfl) (by kernel_rfl) (by kernel_rfl) (fun _ _ _ h => h) (Or.inl ⟨by rfl, ?_⟩) (by assumption) ?_
                    rotate_left
                    · intro w hSw; (try dsimp only at hSw); go_simp; first | done | with_reducible rfl
                    try simp only [Act.put, List.setIfInBounds_toArray, List.set_cons_zero, List.set_cons_succ]
                    refine wpAnyH_take (i := 21) (oi := { dst := some 54, op := Op.fieldAddr 40 (Operand.tmp 53) 0, type := 0, pos := "law.go:63", after := #[{ on := 20, ground := Ground.data }, { on := 0, ground := Ground.phase }, { on := 1, ground := Ground.phase }, { on := 2, ground := Ground.phase }, { on := 3, ground := Ground.phase }, { on := 4, ground := Ground.phase }, { on := 5, ground := Ground.phase }, { on := 6, ground := Ground.phase }, { on := 7, ground := Ground.phase }, { on := 8, ground := Ground.phase }, { on := 9, ground := Ground.phase }, { on := 10, ground := Ground.phase }, { on := 11, ground := Ground.phase }, { on := 12, ground := Ground.phase }, { on := 13, ground := Ground.phase }, { on := 14, ground := Ground.phase }, { on := 15, ground := Ground.phase }, { on := 16, ground := Ground.phase }, { on := 17, ground := Ground.phase }, { on := 18, ground := Ground.phase }, { on := 19, ground := Ground.phase }], guard := none }) (v := ?_) rfl (by kernel_rfl) (by kernel_rfl) (by kernel_rfl) (fun _ _ _ h => h) (Or.inl ⟨by rfl, ?_⟩) (by assumption) ?_
                    rotate_left
                    · intro w hSw; (try dsimp only at hSw); go_simp; first | done | with_reducible rfl
                    try simp only [Act.put, List.setIfInBounds_toArray, List.set_cons_zero, List.set_cons_succ]
                    refine wpAnyH_ready (rs := [22]) (by kernel_rfl) (by simp) ?_
                    refine (AllReadyH.cons (o := { dst := none, op := Op.store 38 (Operand.tmp 54) (Operand.tmp 52), type := 0, pos := "law.go:63", after := #[{ on := 21, ground := Ground.data }, { on := 19, ground := Ground.data }, { on := 19, ground := Ground.chain }, { on := 0, ground := Ground.phase }, { on := 1, ground := Ground.phase }, { on := 2, ground := Ground.phase }, { on := 3, ground := Ground.phase }, { on := 4, ground := Ground.phase }, { on := 5, ground := Ground.phase }, { on := 6, ground := Ground.phase }, { on := 7, ground := Ground.phase }, { on := 8, ground := Ground.phase }, { on := 9, ground := Ground.phase }, { on := 10, ground := Ground.phase }, { on := 11, ground := Ground.phase }, { on := 12, ground := Ground.phase }, { on := 13, ground := Ground.phase }, { on := 14, ground := Ground.phase }, { on := 15, ground := Ground.phase }, { on := 16, ground := Ground.phase }, { on := 17, ground := Ground.phase }, { on := 18, ground := Ground.phase }, { on := 19, ground := Ground.phase }], guard := none }) rfl (fun K hK => ?_) AllReadyH.nil)
                    have kbc : V7.cell? ⟨kb, 0, none⟩ = some (.slice oa Kn oc) := bb.out.2.1 0
                    have kbf : V7.frozen? ⟨kb, 0, none⟩ = false := bb.out.2.2 0
                    go_simp
                    clear hHeld
                    refine hK.out _ _ trivial (fun hHeld => ?_)
                    clear hK kbc kbf
                    try simp only [Act.put]
                    refine wpAnyH_done (by kernel_rfl) ?_ _
                    go_wp2_with fail
                    simp [bodyPost, results, Try.results26, go_sem]
                    exact ⟨gO, cO, xM, g1, c1, g2, c2, _, F0.out⟩
                  · skip
                    go_simp
                    have S1 : Hd (St w lo Kn k 0 (.slice va k vc) (.slice la (k + 60) lc) (k + 60) (some x1) (some x3) (some (g1, c1)) (some (g2, c2)) (some V4.heap.size) none (V4.alloc (.cells #[Value.slice va k vc, .slice (some ⟨g1, 0, none⟩) (k + 1) c1, .slice (some ⟨g2, 0, none⟩) (k + 3) c2, .slice la (k + 60) lc] 77))) := Hd.mk (S0.out.s17 77)
                    clear hHeld
                    refine hK.out _ _ trivial (fun hHeld => ?_)
                    clear hK S0
                    generalize V4.alloc (.cells #[Value.slice va k vc, .slice (some ⟨g1, 0, none⟩) (k + 1) c1, .slice (some ⟨g2, 0, none⟩) (k + 3) c2, .slice la (k + 60) lc] 77) = V5 at *
                    generalize V4.heap.size = xM at *
                    clear V4
                    have S0 := S1
                    clear S1
                    try simp only [Act.put, List.setIfInBounds_toArray, List.set_cons_zero, List.set_cons_succ]
                    refine wpAnyH_ready (rs := [4, 18]) (by kernel_rfl) (by simp) ?_
                    refine (AllReadyH.cons (o := { dst := some 37, op := Op.load 38 (Operand.tmp 36), type := 38, pos := "law.go:63", after := #[{ on := 3, ground := Ground.data }], guard := none }) rfl (fun K hK => ?_) (AllReadyH.cons (o := { dst := some 51, op := Op.buildSlice 38 1 #[(0, Operand.tmp 50)], type := 38, pos := "law.go:63", after := #[{ on := 17, ground := Ground.data }], guard := none }) rfl (fun K hK => ?_) AllReadyH.nil))
                    · skip
                      have kbc : V5.cell? ⟨kb, 0, none⟩ = some (.slice oa Kn oc) := (S0.out.kq.at_ A0.out (fun q => hkv.out kb q rfl)).2.1 0
                      go_simp
                      clear hHeld
                      refine hK.out _ _ trivial (fun hHeld => ?_)
                      clear hK kbc
                      try simp only [Act.put, List.setIfInBounds_toArray, List.set_cons_zero, List.set_cons_succ]
                      refine wpAnyH_ready (rs := [18]) (by kernel_rfl) (by simp) ?_
                      refine (AllReadyH.cons (o := { dst := some 51, op := Op.buildSlice 38 1 #[(0, Operand.tmp 50)], type := 38, pos := "law.go:63", after := #[{ on := 17, ground := Ground.data }], guard := none }) rfl (fun K hK => ?_) AllReadyH.nil)
                      go_simp
                      have S1 : Hd (St w lo Kn k 0 (.slice va k vc) (.slice la (k + 60) lc) (k + 60) (some x1) (some x3) (some (g1, c1)) (some (g2, c2)) (some xM) (some V5.heap.size) (V5.alloc (.cells #[Value.slice (some ⟨xM, 0, none⟩) 4 4] 82))) := Hd.mk (S0.out.s18 82)
                      clear hHeld
                      refine hK.out _ _ trivial (fun hHeld => ?_)
                      clear hK S0
                      generalize V5.alloc (.cells #[Value.slice (some ⟨xM, 0, none⟩) 4 4] 82) = V6 at *
                      generalize V5.heap.size = xX at *
                      clear V5
                      have S0 := S1
                      clear S1
                      try simp only [Act.put, List.setIfInBounds_toArray, List.set_cons_zero, List.set_cons_succ]
                      refine wpAnyH_ready (rs := [19]) (by kernel_rfl) (by simp) ?_
                      refine (AllReadyH.cons (o := { dst := some 52, op := Op.call { callee := Callee.builtin Builtin.append, args := #[Operand.tmp 37, Operand.tmp 51], argTypes := #[38, 38] }, type := 38, pos := "law.go:63", after := #[{ on := 4, ground := Ground.data }, { on := 18, ground := Ground.data }, { on := 15, ground := Ground.chain }], guard := none }) rfl (fun K hK => ?_) AllReadyH.nil)
                      rw [if_pos (by rfl)]
                      obtain ⟨M_, eM, bX, _⟩ := S0.out.xX xX rfl
                      cases eM
                      refine wp_append_1 (.tmp 37) (.tmp 51) rfl lo (.slice oa Kn oc) Kn rows (.slice (some ⟨xM, 0, none⟩) 4 4) rfl (S0.out.kq.own hO.out (fun g q => (hko.out g q).2)) xX rfl bX rfl hK1 (Nat.le_trans hlo S0.out.kq.size) ?_
                      intro gO cO V7 k1 k2 k3
                      have F0 := Hd.mk (S0.out.fin A0.out hO.out hkv.out hko.out hl3.out k1 k2 k3)
                      have bb : Hd (At V7 kb #[(.slice oa Kn oc)]) := Hd.mk (at_grown (S0.out.kq.at_ A0.out (fun q => hkv.out kb q rfl)) k2 (fun q => (hko.out kb q).1 rfl))
                      clear hHeld
                      refine hK.out _ _ trivial (fun hHeld => ?_)
                      clear hK k1 k2 k3 bX S0 V6
                      try simp only [Act.put, List.setIfInBounds_toArray, List.set_cons_zero, List.set_cons_succ]
                      refine wpAnyH_take (i := 20) (oi := { dst := some 53, op := Op.nilCheck (Operand.tmp 33), type := 0, pos := "law.go:63", after := #[{ on := 0, ground := Ground.data }, { on := 0, ground := Ground.phase }, { on := 1, ground := Ground.phase }, { on := 2, ground := Ground.phase }, { on := 3, ground := Ground.phase }, { on := 4, ground := Ground.phase }, { on := 5, ground := Ground.phase }, { on := 6, ground := Ground.phase }, { on := 7, ground := Ground.phase }, { on := 8, ground := Ground.phase }, { on := 9, ground := Ground.phase }, { on := 10, ground := Ground.phase }, { on := 11, ground := Ground.phase }, { on := 12, ground := Ground.phase }, { on := 13, ground := Ground.phase }, { on := 14, ground := Ground.phase }, { on := 15, ground := Ground.phase }, { on := 16, ground := Ground.phase }, { on := 17, ground := Ground.phase }, { on := 18, ground := Ground.phase }, { on := 19, ground := Ground.phase }], guard := none }) (v := ?_) rfl (by kernel_rfl) (by kernel_rfl) (by kernel_rfl) (fun _ _ _ h => h) (Or.inl ⟨by rfl, ?_⟩) (by assumption) ?_
                      rotate_left
                      · intro w hSw; (try dsimp only at hSw); go_simp; first | done | with_reducible rfl
                      try simp only [Act.put, List.setIfInBounds_toArray, List.set_cons_zero, List.set_cons_succ]
                      refine wpAnyH_take (i := 21) (oi := { dst := some 54, op := Op.fieldAddr 40 (Operand.tmp 53) 0, type := 0, pos := "law.go:63", after := #[{ on := 20, ground := Ground.data }, { on := 0, ground := Ground.phase }, { on := 1, ground := Ground.phase }, { on := 2, ground := Ground.phase }, { on := 3, ground := Ground.phase }, { on := 4, ground := Ground.phase }, { on := 5, ground := Ground.phase }, { on := 6, ground := Ground.phase }, { on := 7, ground := Ground.phase }, { on := 8, ground := Ground.phase }, { on := 9, ground := Ground.phase }, { on := 10, ground := Ground.phase }, { on := 11, ground := Ground.phase }, { on := 12, ground := Ground.phase }, { on := 13, ground := Ground.phase }, { on := 14, ground := Ground.phase }, { on := 15, ground := Ground.phase }, { on := 16, ground := Ground.phase }, { on := 17, ground := Ground.phase }, { on := 18, ground := Ground.phase }, { on := 19, ground := Ground.phase }], guard := none }) (v := ?_) rfl (by kernel_rfl) (by kernel_rfl) (by kernel_rfl) (fun _ _ _ h => h) (Or.inl ⟨by rfl, ?_⟩) (by assumption) ?_
                      rotate_left
                      · intro w hSw; (try dsimp only at hSw); go_simp; first | done | with_reducible rfl
                      try simp only [Act.put, List.setIfInBounds_toArray, List.set_cons_zero, List.set_cons_succ]
                      refine wpAnyH_ready (rs := [22]) (by kernel_rfl) (by simp) ?_
                      refine (AllReadyH.cons (o := { dst := none, op := Op.store 38 (Operand.tmp 54) (Operand.tmp 52), type := 0, pos := "law.go:63", after := #[{ on := 21, ground := Ground.data }, { on := 19, ground := Ground.data }, { on := 19, ground := Ground.chain }, { on := 0, ground := Ground.phase }, { on := 1, ground := Ground.phase }, { on := 2, ground := Ground.phase }, { on := 3, ground := Ground.phase }, { on := 4, ground := Ground.phase }, { on := 5, ground := Ground.phase }, { on := 6, ground := Ground.phase }, { on := 7, ground := Ground.phase }, { on := 8, ground := Ground.phase }, { on := 9, ground := Ground.phase }, { on := 10, ground := Ground.phase }, { on := 11, ground := Ground.phase }, { on := 12, ground := Ground.phase }, { on := 13, ground := Ground.phase }, { on := 14, ground := Ground.phase }, { on := 15, ground := Ground.phase }, { on := 16, ground := Ground.phase }, { on := 17, ground := Ground.phase }, { on := 18, ground := Ground.phase }, { on := 19, ground := Ground.phase }], guard := none }) rfl (fun K hK => ?_) AllReadyH.nil)
                      have kbc : V7.cell? ⟨kb, 0, none⟩ = some (.slice oa Kn oc) := bb.out.2.1 0
                      have kbf : V7.frozen? ⟨kb, 0, none⟩ = false := bb.out.2.2 0
                      go_simp
                      clear hHeld
                      refine hK.out _ _ trivial (fun hHeld => ?_)
                      clear hK kbc kbf
                      try simp only [Act.put]
                      refine wpAnyH_done (by kernel_rfl) ?_ _
                      go_wp2_with fail
                      simp [bodyPost, results, Try.results26, go_sem]
                      exact ⟨gO, cO, xM, g1, c1, g2, c2, _, F0.out⟩
                    · skip
                      go_simp
                      have S1 : Hd (St w lo Kn k 0 (.slice va k vc) (.slice la (k + 60) lc) (k + 60) (some x1) (some x3) (some (g1, c1)) (some (g2, c2)) (some xM) (some V5.heap.size) (V5.alloc (.cells #[Value.slice (some ⟨xM, 0, none⟩) 4 4] 82))) := Hd.mk (S0.out.s18 82)
                      clear hHeld
                      refine hK.out _ _ trivial (fun hHeld => ?_)
                      clear hK S0
                      generalize V5.alloc (.cells #[Value.slice (some ⟨xM, 0, none⟩) 4 4] 82) = V6 at *
                      generalize V5.heap.size = xX at *
                      clear V5
                      have S0 := S1
                      clear S1
                      try simp only [Act.put, List.setIfInBounds_toArray, List.set_cons_zero, List.set_cons_succ]
                      refine wpAnyH_ready (rs := [4]) (by kernel_rfl) (by simp) ?_
                      refine (AllReadyH.cons (o := { dst := some 37, op := Op.load 38 (Operand.tmp 36), type := 38, pos := "law.go:63", after := #[{ on := 3, ground := Ground.data }], guard := none }) rfl (fun K hK => ?_) AllReadyH.nil)
                      have kbc : V6.cell? ⟨kb, 0, none⟩ = some (.slice oa Kn oc) := (S0.out.kq.at_ A0.out (fun q => hkv.out kb q rfl)).2.1 0
                      go_simp
                      clear hHeld
                      refine hK.out _ _ trivial (fun hHeld => ?_)
                      clear hK kbc
                      try simp only [Act.put, List.setIfInBounds_toArray, List.set_cons_zero, List.set_cons_succ]
                      refine wpAnyH_ready (rs := [19]) (by kernel_rfl) (by simp) ?_
                      refine (AllReadyH.cons (o := { dst := some 52, op := Op.call { callee := Callee.builtin Builtin.append, args := #[Operand.tmp 37, Operand.tmp 51], argTypes := #[38, 38] }, type := 38, pos := "law.go:63", after := #[{ on := 4, ground := Ground.data }, { on := 18, ground := Ground.data }, { on := 15, ground := Ground.chain }], guard := none }) rfl (fun K hK => ?_) AllReadyH.nil)
                      rw [if_pos (by rfl)]
                      obtain ⟨M_, eM, bX, _⟩ := S0.out.xX xX rfl
                      cases eM
                      refine wp_append_1 (.tmp 37) (.tmp 51) rfl lo (.slice oa Kn oc) Kn rows (.slice (some ⟨xM, 0, none⟩) 4 4) rfl (S0.out.kq.own hO.out (fun g q => (hko.out g q).2)) xX rfl bX rfl hK1 (Nat.le_trans hlo S0.out.kq.size) ?_
                      intro gO cO V7 k1 k2 k3
                      have F0 := Hd.mk (S0.out.fin A0.out hO.out hkv.out hko.out hl3.out k1 k2 k3)
                      have bb : Hd (At V7 kb #[(.slice oa Kn oc)]) := Hd.mk (at_grown (S0.out.kq.at_ A0.out (fun q => hkv.out kb q rfl)) k2 (fun q => (hko.out kb q).1 rfl))
                      clear hHeld
                      refine hK.out _ _ trivial (fun hHeld => ?_)
                      clear hK k1 k2 k3 bX S0 V6
                      try simp only [Act.put, List.setIfInBounds_toArray, List.set_cons_zero, List.set_cons_succ]
                      refine wpAnyH_take (i := 20) (oi := { dst := some 53, op := Op.nilCheck (Operand.tmp 33), type := 0, pos := "law.go:63", after := #[{ on := 0, ground := Ground.data }, { on := 0, ground := Ground.phase }, { on := 1, ground := Ground.phase }, { on := 2, ground := Ground.phase }, { on := 3, ground := Ground.phase }, { on := 4, ground := Ground.phase }, { on := 5, ground := Ground.phase }, { on := 6, ground := Ground.phase }, { on := 7, ground := Ground.phase }, { on := 8, ground := Ground.phase }, { on := 9, ground := Ground.phase }, { on := 10, ground := Ground.phase }, { on := 11, ground := Ground.phase }, { on := 12, ground := Ground.phase }, { on := 13, ground := Ground.phase }, { on := 14, ground := Ground.phase }, { on := 15, ground := Ground.phase }, { on := 16, ground := Ground.phase }, { on := 17, ground := Ground.phase }, { on := 18, ground := Ground.phase }, { on := 19, ground := Ground.phase }], guard := none }) (v := ?_) rfl (by kernel_rfl) (by kernel_rfl) (by kernel_rfl) (fun _ _ _ h => h) (Or.inl ⟨by rfl, ?_⟩) (by assumption) ?_
                      rotate_left
                      · intro w hSw; (try dsimp only at hSw); go_simp; first | done | with_reducible rfl
                      try simp only [Act.put, List.setIfInBounds_toArray, List.set_cons_zero, List.set_cons_succ]
                      refine wpAnyH_take (i := 21) (oi := { dst := some 54, op := Op.fieldAddr 40 (Operand.tmp 53) 0, type := 0, pos := "law.go:63", after := #[{ on := 20, ground := Ground.data }, { on := 0, ground := Ground.phase }, { on := 1, ground := Ground.phase }, { on := 2, ground := Ground.phase }, { on := 3, ground := Ground.phase }, { on := 4, ground := Ground.phase }, { on := 5, ground := Ground.phase }, { on := 6, ground := Ground.phase }, { on := 7, ground := Ground.phase }, { on := 8, ground := Ground.phase }, { on := 9, ground := Ground.phase }, { on := 10, ground := Ground.phase }, { on := 11, ground := Ground.phase }, { on := 12, ground := Ground.phase }, { on := 13, ground := Ground.phase }, { on := 14, ground := Ground.phase }, { on := 15, ground := Ground.phase }, { on := 16, ground := Ground.phase }, { on := 17, ground := Ground.phase }, { on := 18, ground := Ground.phase }, { on := 19, ground := Ground.phase }], guard := none }) (v := ?_) rfl (by kernel_rfl) (by kernel_rfl) (by kernel_rfl) (fun _ _ _ h => h) (Or.inl ⟨by rfl, ?_⟩) (by assumption) ?_
                      rotate_left
                      · intro w hSw; (try dsimp only at hSw); go_simp; first | done | with_reducible rfl
                      try simp only [Act.put, List.setIfInBounds_toArray, List.set_cons_zero, List.set_cons_succ]
                      refine wpAnyH_ready (rs := [22]) (by kernel_rfl) (by simp) ?_
                      refine (AllReadyH.cons (o := { dst := none, op := Op.store 38 (Operand.tmp 54) (Operand.tmp 52), type := 0, pos := "law.go:63", after := #[{ on := 21, ground := Ground.data }, { on := 19, ground := Ground.data }, { on := 19, ground := Ground.chain }, { on := 0, ground := Ground.phase }, { on := 1, ground := Ground.phase }, { on := 2, ground := Ground.phase }, { on := 3, ground := Ground.phase }, { on := 4, ground := Ground.phase }, { on := 5, ground := Ground.phase }, { on := 6, ground := Ground.phase }, { on := 7, ground := Ground.phase }, { on := 8, ground := Ground.phase }, { on := 9, ground := Ground.phase }, { on := 10, ground := Ground.phase }, { on := 11, ground := Ground.phase }, { on := 12, ground := Ground.phase }, { on := 13, ground := Ground.phase }, { on := 14, ground := Ground.phase }, { on := 15, ground := Ground.phase }, { on := 16, ground := Ground.phase }, { on := 17, ground := Ground.phase }, { on := 18, ground := Ground.phase }, { on := 19, ground := Ground.phase }], guard := none }) rfl (fun K hK => ?_) AllReadyH.nil)
                      have kbc : V7.cell? ⟨kb, 0, none⟩ = some (.slice oa Kn oc) := bb.out.2.1 0
                      have kbf : V7.frozen? ⟨kb, 0, none⟩ = false := bb.out.2.2 0
                      go_simp
                      clear hHeld
                      refine hK.out _ _ trivial (fun hHeld => ?_)
                      clear hK kbc kbf
                      try simp only [Act.put]
                      refine wpAnyH_done (by kernel_rfl) ?_ _
                      go_wp2_with fail
                      simp [bodyPost, results, Try.results26, go_sem]
                      exact ⟨gO, cO, xM, g1, c1, g2, c2, _, F0.out⟩
          · skip
            go_simp
            have S1 : Hd (St w lo Kn k 0 (.slice va k vc) (.slice la (k + 60) lc) (k + 60) none (some V0.heap.size) none none none none (V0.alloc (.cells #[Value.int .u64 (mkN Kn), Value.int .u64 (mkN Kn), Value.int .u64 (mkN Kn)] 42))) := Hd.mk (S0.out.s14 42)
            clear hHeld
            refine hK.out _ _ trivial (fun hHeld => ?_)
            clear hK S0
            generalize V0.alloc (.cells #[Value.int .u64 (mkN Kn), Value.int .u64 (mkN Kn), Value.int .u64 (mkN Kn)] 42) = V1 at *
            generalize V0.heap.size = x3 at *
            clear V0
            have S0 := S1
            clear S1
            try simp only [Act.put, List.setIfInBounds_toArray, List.set_cons_zero, List.set_cons_succ]
            refine wpAnyH_ready (rs := [4, 8]) (by kernel_rfl) (by simp) ?_
            refine (AllReadyH.cons (o := { dst := some 37, op := Op.load 38 (Operand.tmp 36), type := 38, pos := "law.go:63", after := #[{ on := 3, ground := Ground.data }], guard := none }) rfl (fun K hK => ?_) (AllReadyH.cons (o := { dst := some 41, op := Op.buildSlice 77 1 #[(0, Operand.tmp 40)], type := 77, pos := "law.go:63", after := #[{ on := 7, ground := Ground.data }], guard := none }) rfl (fun K hK => ?_) AllReadyH.nil))
            · skip
              have kbc : V1.cell? ⟨kb, 0, none⟩ = some (.slice oa Kn oc) := (S0.out.kq.at_ A0.out (fun q => hkv.out kb q rfl)).2.1 0
              go_simp
              clear hHeld
              refine hK.out _ _ trivial (fun hHeld => ?_)
              clear hK kbc
              try simp only [Act.put, List.setIfInBounds_toArray, List.set_cons_zero, List.set_cons_succ]
              refine wpAnyH_ready (rs := [8]) (by kernel_rfl) (by simp) ?_
              refine (AllReadyH.cons (o := { dst := some 41, op := Op.buildSlice 77 1 #[(0, Operand.tmp 40)], type := 77, pos := "law.go:63", after := #[{ on := 7, ground := Ground.data }], guard := none }) rfl (fun K hK => ?_) AllReadyH.nil)
              go_simp
              have S1 : Hd (St w lo Kn k 0 (.slice va k vc) (.slice la (k + 60) lc) (k + 60) (some V1.heap.size) (some x3) none none none none (V1.alloc (.cells #[Value.int .u64 (mkN Kn)] 42))) := Hd.mk (S0.out.s8 42)
              clear hHeld
              refine hK.out _ _ trivial (fun hHeld => ?_)
              clear hK S0
              generalize V1.alloc (.cells #[Value.int .u64 (mkN Kn)] 42) = V2 at *
              generalize V1.heap.size = x1 at *
              clear V1
              have S0 := S1
              clear S1
              try simp only [Act.put, List.setIfInBounds_toArray, List.set_cons_zero, List.set_cons_succ]
              refine wpAnyH_ready (rs := [9]) (by kernel_rfl) (by simp) ?_
              refine (AllReadyH.cons (o := { dst := some 42, op := Op.call { callee := Callee.builtin Builtin.append, args := #[Operand.tmp 39, Operand.tmp 41], argTypes := #[77, 77] }, type := 77, pos := "law.go:63", after := #[{ on := 6, ground := Ground.data }, { on := 8, ground := Ground.data }], guard := none }) rfl (fun K hK => ?_) AllReadyH.nil)
              rw [if_pos (by rfl)]
              refine wp_append_m (mkI Kn) (.tmp 39) (.tmp 41) 77 42 _ 8 rfl Try.underlying77 infoU64 rfl (mkI_pos Kn) (mkI_one Kn) lo (.slice va k vc) k rfl S0.out.ov x1 1 1 rfl (S0.out.x1 x1 rfl).1 (by decide) (by unfold maxLen; omega) (by omega) (Nat.le_trans hlo S0.out.kq.size) ?_
              intro g1 c1 V3 k1 k2 k3 k4 k5 k6
              have S1 : Hd (St w lo Kn k 0 (.slice va k vc) (.slice la (k + 60) lc) (k + 60) (some x1) (some x3) (some (g1, c1)) none none none V3) := Hd.mk (S0.out.a1 hvb.out k1 k2 k3 k5 k6)
              clear hHeld
              refine hK.out _ _ trivial (fun hHeld => ?_)
              clear hK k1 k2 k3 k4 k5 k6 S0 V2
              have S0 := S1
              clear S1
              try simp only [Act.put, List.setIfInBounds_toArray, List.set_cons_zero, List.set_cons_succ]
              refine wpAnyH_ready (rs := [15]) (by kernel_rfl) (by simp) ?_
              refine (AllReadyH.cons (o := { dst := some 48, op := Op.call { callee := Callee.builtin Builtin.append, args := #[Operand.tmp 43, Operand.tmp 47], argTypes := #[77, 77] }, type := 77, pos := "law.go:63", after := #[{ on := 10, ground := Ground.data }, { on := 14, ground := Ground.data }, { on := 9, ground := Ground.chain }], guard := none }) rfl (fun K hK => ?_) AllReadyH.nil)
              rw [if_pos (by rfl)]
              refine wp_append_m (mkI Kn) (.tmp 43) (.tmp 47) 77 42 _ 8 rfl Try.underlying77 infoU64 rfl (mkI_pos Kn) (mkI_one Kn) lo (.slice va k vc) k rfl S0.out.ov x3 3 3 rfl (S0.out.x3 x3 rfl).1 (by decide) (by unfold maxLen; omega) (by omega) (Nat.le_trans hlo S0.out.kq.size) ?_
              intro g2 c2 V4 k1 k2 k3 k4 k5 k6
              have S1 : Hd (St w lo Kn k 0 (.slice va k vc) (.slice la (k + 60) lc) (k + 60) (some x1) (some x3) (some (g1, c1)) (some (g2, c2)) none none V4) := Hd.mk (S0.out.a2 hvb.out k1 k2 k3 k5 k6)
              clear hHeld
              refine hK.out _ _ trivial (fun hHeld => ?_)
              clear hK k1 k2 k3 k4 k5 k6 S0 V3
              have S0 := S1
              clear S1
              try simp only [Act.put, List.setIfInBounds_toArray, List.set_cons_zero, List.set_cons_succ]
              refine wpAnyH_ready (rs := [17]) (by kernel_rfl) (by simp) ?_
              refine (AllReadyH.cons (o := { dst := some 50, op := Op.buildSlice 82 4 #[(0, Operand.tmp 38), (1, Operand.tmp 42), (2, Operand.tmp 48), (3, Operand.tmp 49)], type := 82, pos := "law.go:63", after := #[{ on := 5, ground := Ground.data }, { on := 9, ground := Ground.data }, { on := 15, ground := Ground.data }, { on := 16, ground := Ground.data }], guard := none }) rfl (fun K hK => ?_) AllReadyH.nil)
              go_simp
              have S1 : Hd (St w lo Kn k 0 (.slice va k vc) (.slice la (k + 60) lc) (k + 60) (some x1) (some x3) (some (g1, c1)) (some (g2, c2)) (some V4.heap.size) none (V4.alloc (.cells #[Value.slice va k vc, .slice (some ⟨g1, 0, none⟩) (k + 1) c1, .slice (some ⟨g2, 0, none⟩) (k + 3) c2, .slice la (k + 60) lc] 77))) := Hd.mk (S0.out.s17 77)
              clear hHeld
              refine hK.out _ _ trivial (fun hHeld => ?_)
              clear hK S0
              generalize V4.alloc (.cells #[Value.slice va k vc, .slice (some ⟨g1, 0, none⟩) (k + 1) c1, .slice (some ⟨g2, 0, none⟩) (k + 3) c2, .slice la (k + 60) lc] 77) = V5 at *
              generalize V4.heap.size = xM at *
              clear V4
              have S0 := S1
              clear S1
              try simp only [Act.put, List.setIfInBounds_toArray, List.set_cons_zero, List.set_cons_succ]
              refine wpAnyH_ready (rs := [18]) (by kernel_rfl) (by simp) ?_
              refine (AllReadyH.cons (o := { dst := some 51, op := Op.buildSlice 38 1 #[(0, Operand.tmp 50)], type := 38, pos := "law.go:63", after := #[{ on := 17, ground := Ground.data }], guard := none }) rfl (fun K hK => ?_) AllReadyH.nil)
              go_simp
              have S1 : Hd (St w lo Kn k 0 (.slice va k vc) (.slice la (k + 60) lc) (k + 60) (some x1) (some x3) (some (g1, c1)) (some (g2, c2)) (some xM) (some V5.heap.size) (V5.alloc (.cells #[Value.slice (some ⟨xM, 0, none⟩) 4 4] 82))) := Hd.mk (S0.out.s18 82)
              clear hHeld
              refine hK.out _ _ trivial (fun hHeld => ?_)
              clear hK S0
              generalize V5.alloc (.cells #[Value.slice (some ⟨xM, 0, none⟩) 4 4] 82) = V6 at *
              generalize V5.heap.size = xX at *
              clear V5
              have S0 := S1
              clear S1
              try simp only [Act.put, List.setIfInBounds_toArray, List.set_cons_zero, List.set_cons_succ]
              refine wpAnyH_ready (rs := [19]) (by kernel_rfl) (by simp) ?_
              refine (AllReadyH.cons (o := { dst := some 52, op := Op.call { callee := Callee.builtin Builtin.append, args := #[Operand.tmp 37, Operand.tmp 51], argTypes := #[38, 38] }, type := 38, pos := "law.go:63", after := #[{ on := 4, ground := Ground.data }, { on := 18, ground := Ground.data }, { on := 15, ground := Ground.chain }], guard := none }) rfl (fun K hK => ?_) AllReadyH.nil)
              rw [if_pos (by rfl)]
              obtain ⟨M_, eM, bX, _⟩ := S0.out.xX xX rfl
              cases eM
              refine wp_append_1 (.tmp 37) (.tmp 51) rfl lo (.slice oa Kn oc) Kn rows (.slice (some ⟨xM, 0, none⟩) 4 4) rfl (S0.out.kq.own hO.out (fun g q => (hko.out g q).2)) xX rfl bX rfl hK1 (Nat.le_trans hlo S0.out.kq.size) ?_
              intro gO cO V7 k1 k2 k3
              have F0 := Hd.mk (S0.out.fin A0.out hO.out hkv.out hko.out hl3.out k1 k2 k3)
              have bb : Hd (At V7 kb #[(.slice oa Kn oc)]) := Hd.mk (at_grown (S0.out.kq.at_ A0.out (fun q => hkv.out kb q rfl)) k2 (fun q => (hko.out kb q).1 rfl))
              clear hHeld
              refine hK.out _ _ trivial (fun hHeld => ?_)
              clear hK k1 k2 k3 bX S0 V6
              try simp only [Act.put, List.setIfInBounds_toArray, List.set_cons_zero, List.set_cons_succ]
              refine wpAnyH_take (i := 20) (oi := { dst := some 53, op := Op.nilCheck (Operand.tmp 33), type := 0, pos := "law.go:63", after := #[{ on := 0, ground := Ground.data }, { on := 0, ground := Ground.phase }, { on := 1, ground := Ground.phase }, { on := 2, ground := Ground.phase }, { on := 3, ground := Ground.phase }, { on := 4, ground := Ground.phase }, { on := 5, ground := Ground.phase }, { on := 6, ground := Ground.phase }, { on := 7, ground := Ground.phase }, { on := 8, ground := Ground.phase }, { on := 9, ground := Ground.phase }, { on := 10, ground := Ground.phase }, { on := 11, ground := Ground.phase }, { on := 12, ground := Ground.phase }, { on := 13, ground := Ground.phase }, { on := 14, ground := Ground.phase }, { on := 15, ground := Ground.phase }, { on := 16, ground := Ground.phase }, { on := 17, ground := Ground.phase }, { on := 18, ground := Ground.phase }, { on := 19, ground := Ground.phase }], guard := none }) (v := ?_) rfl (by kernel_rfl) (by kernel_rfl) (by kernel_rfl) (fun _ _ _ h => h) (Or.inl ⟨by rfl, ?_⟩) (by assumption) ?_
              rotate_left
              · intro w hSw; (try dsimp only at hSw); go_simp; first | done | with_reducible rfl
              try simp only [Act.put, List.setIfInBounds_toArray, List.set_cons_zero, List.set_cons_succ]
              refine wpAnyH_take (i := 21) (oi := { dst := some 54, op := Op.fieldAddr 40 (Operand.tmp 53) 0, type := 0, pos := "law.go:63", after := #[{ on := 20, ground := Ground.data }, { on := 0, ground := Ground.phase }, { on := 1, ground := Ground.phase }, { on := 2, ground := Ground.phase }, { on := 3, ground := Ground.phase }, { on := 4, ground := Ground.phase }, { on := 5, ground := Ground.phase }, { on := 6, ground := Ground.phase }, { on := 7, ground := Ground.phase }, { on := 8, ground := Ground.phase }, { on := 9, ground := Ground.phase }, { on := 10, ground := Ground.phase }, { on := 11, ground := Ground.phase }, { on := 12, ground := Ground.phase }, { on := 13, ground := Ground.phase }, { on := 14, ground := Ground.phase }, { on := 15, ground := Ground.phase }, { on := 16, ground := Ground.phase }, { on := 17, ground := Ground.phase }, { on := 18, ground := Ground.phase }, { on := 19, ground := Ground.phase }], guard := none }) (v := ?_) rfl (by kernel_rfl) (by kernel_rfl) (by kernel_rfl) (fun _ _ _ h => h) (Or.inl ⟨by rfl, ?_⟩) (by assumption) ?_
              rotate_left
              · intro w hSw; (try dsimp only at hSw); go_simp; first | done | with_reducible rfl
              try simp only [Act.put, List.setIfInBounds_toArray, List.set_cons_zero, List.set_cons_succ]
              refine wpAnyH_ready (rs := [22]) (by kernel_rfl) (by simp) ?_
              refine (AllReadyH.cons (o := { dst := none, op := Op.store 38 (Operand.tmp 54) (Operand.tmp 52), type := 0, pos := "law.go:63", after := #[{ on := 21, ground := Ground.data }, { on := 19, ground := Ground.data }, { on := 19, ground := Ground.chain }, { on := 0, ground := Ground.phase }, { on := 1, ground := Ground.phase }, { on := 2, ground := Ground.phase }, { on := 3, ground := Ground.phase }, { on := 4, ground := Ground.phase }, { on := 5, ground := Ground.phase }, { on := 6, ground := Ground.phase }, { on := 7, ground := Ground.phase }, { on := 8, ground := Ground.phase }, { on := 9, ground := Ground.phase }, { on := 10, ground := Ground.phase }, { on := 11, ground := Ground.phase }, { on := 12, ground := Ground.phase }, { on := 13, ground := Ground.phase }, { on := 14, ground := Ground.phase }, { on := 15, ground := Ground.phase }, { on := 16, ground := Ground.phase }, { on := 17, ground := Ground.phase }, { on := 18, ground := Ground.phase }, { on := 19, ground := Ground.phase }], guard := none }) rfl (fun K hK => ?_) AllReadyH.nil)
              have kbc : V7.cell? ⟨kb, 0, none⟩ = some (.slice oa Kn oc) := bb.out.2.1 0
              have kbf : V7.frozen? ⟨kb, 0, none⟩ = false := bb.out.2.2 0
              go_simp
              clear hHeld
              refine hK.out _ _ trivial (fun hHeld => ?_)
              clear hK kbc kbf
              try simp only [Act.put]
              refine wpAnyH_done (by kernel_rfl) ?_ _
              go_wp2_with fail
              simp [bodyPost, results, Try.results26, go_sem]
              exact ⟨gO, cO, xM, g1, c1, g2, c2, _, F0.out⟩
            · skip
              go_simp
              have S1 : Hd (St w lo Kn k 0 (.slice va k vc) (.slice la (k + 60) lc) (k + 60) (some V1.heap.size) (some x3) none none none none (V1.alloc (.cells #[Value.int .u64 (mkN Kn)] 42))) := Hd.mk (S0.out.s8 42)
              clear hHeld
              refine hK.out _ _ trivial (fun hHeld => ?_)
              clear hK S0
              generalize V1.alloc (.cells #[Value.int .u64 (mkN Kn)] 42) = V2 at *
              generalize V1.heap.size = x1 at *
              clear V1
              have S0 := S1
              clear S1
              try simp only [Act.put, List.setIfInBounds_toArray, List.set_cons_zero, List.set_cons_succ]
              refine wpAnyH_ready (rs := [4, 9]) (by kernel_rfl) (by simp) ?_
              refine (AllReadyH.cons (o := { dst := some 37, op := Op.load 38 (Operand.tmp 36), type := 38, pos := "law.go:63", after := #[{ on := 3, ground := Ground.data }], guard := none }) rfl (fun K hK => ?_) (AllReadyH.cons (o := { dst := some 42, op := Op.call { callee := Callee.builtin Builtin.append, args := #[Operand.tmp 39, Operand.tmp 41], argTypes := #[77, 77] }, type := 77, pos := "law.go:63", after := #[{ on := 6, ground := Ground.data }, { on := 8, ground := Ground.data }], guard := none }) rfl (fun K hK => ?_) AllReadyH.nil))
              · skip
                have kbc : V2.cell? ⟨kb, 0, none⟩ = some (.slice oa Kn oc) := (S0.out.kq.at_ A0.out (fun q => hkv.out kb q rfl)).2.1 0
                go_simp
                clear hHeld
                refine hK.out _ _ trivial (fun hHeld => ?_)
                clear hK kbc
                try simp only [Act.put, List.setIfInBounds_toArray, List.set_cons_zero, List.set_cons_succ]
                refine wpAnyH_ready (rs := [9]) (by kernel_rfl) (by simp) ?_
                refine (AllReadyH.cons (o := { dst := some 42, op := Op.call { callee := Callee.builtin Builtin.append, args := #[Operand.tmp 39, Operand.tmp 41], argTypes := #[77, 77] }, type := 77, pos := "law.go:63", after := #[{ on := 6, ground := Ground.data }, { on := 8, ground := Ground.data }], guard := none }) rfl (fun K hK => ?_) AllReadyH.nil)
                rw [if_pos (by rfl)]
                refine wp_append_m (mkI Kn) (.tmp 39) (.tmp 41) 77 42 _ 8 rfl Try.underlying77 infoU64 rfl (mkI_pos Kn) (mkI_one Kn) lo (.slice va k vc) k rfl S0.out.ov x1 1 1 rfl (S0.out.x1 x1 rfl).1 (by decide) (by unfold maxLen; omega) (by omega) (Nat.le_trans hlo S0.out.kq.size) ?_
                intro g1 c1 V3 k1 k2 k3 k4 k5 k6
                have S1 : Hd (St w lo Kn k 0 (.slice va k vc) (.slice la (k + 60) lc) (k + 60) (some x1) (some x3) (some (g1, c1)) none none none V3) := Hd.mk (S0.out.a1 hvb.out k1 k2 k3 k5 k6)
                clear hHeld
                refine hK.out _ _ trivial (fun hHeld => ?_)
                clear hK k1 k2 k3 k4 k5 k6 S0 V2
                have S0 := S1
                clear S1
                try simp only [Act.put, List.setIfInBounds_toArray, List.set_cons_zero, List.set_cons_succ]
                refine wpAnyH_ready (rs := [15]) (by kernel_rfl) (by simp) ?_
                refine (AllReadyH.cons (o := { dst := some 48, op := Op.call { callee := Callee.builtin Builtin.append, args := #[Operand.tmp 43, Operand.tmp 47], argTypes := #[77, 77] }, type := 77, pos := "law.go:63", after := #[{ on := 10, ground := Ground.data }, { on := 14, ground := Ground.data }, { on := 9, ground := Ground.chain }], guard := none }) rfl (fun K hK => ?_) AllReadyH.nil)
                rw [if_pos (by rfl)]
                refine wp_append_m (mkI Kn) (.tmp 43) (.tmp 47) 77 42 _ 8 rfl Try.underlying77 infoU64 rfl (mkI_pos Kn) (mkI_one Kn) lo (.slice va k vc) k rfl S0.out.ov x3 3 3 rfl (S0.out.x3 x3 rfl).1 (by decide) (by unfold maxLen; omega) (by omega) (Nat.le_trans hlo S0.out.kq.size) ?_
                intro g2 c2 V4 k1 k2 k3 k4 k5 k6
                have S1 : Hd (St w lo Kn k 0 (.slice va k vc) (.slice la (k + 60) lc) (k + 60) (some x1) (some x3) (some (g1, c1)) (some (g2, c2)) none none V4) := Hd.mk (S0.out.a2 hvb.out k1 k2 k3 k5 k6)
                clear hHeld
                refine hK.out _ _ trivial (fun hHeld => ?_)
                clear hK k1 k2 k3 k4 k5 k6 S0 V3
                have S0 := S1
                clear S1
                try simp only [Act.put, List.setIfInBounds_toArray, List.set_cons_zero, List.set_cons_succ]
                refine wpAnyH_ready (rs := [17]) (by kernel_rfl) (by simp) ?_
                refine (AllReadyH.cons (o := { dst := some 50, op := Op.buildSlice 82 4 #[(0, Operand.tmp 38), (1, Operand.tmp 42), (2, Operand.tmp 48), (3, Operand.tmp 49)], type := 82, pos := "law.go:63", after := #[{ on := 5, ground := Ground.data }, { on := 9, ground := Ground.data }, { on := 15, ground := Ground.data }, { on := 16, ground := Ground.data }], guard := none }) rfl (fun K hK => ?_) AllReadyH.nil)
                go_simp
                have S1 : Hd (St w lo Kn k 0 (.slice va k vc) (.slice la (k + 60) lc) (k + 60) (some x1) (some x3) (some (g1, c1)) (some (g2, c2)) (some V4.heap.size) none (V4.alloc (.cells #[Value.slice va k vc, .slice (some ⟨g1, 0, none⟩) (k + 1) c1, .slice (some ⟨g2, 0, none⟩) (k + 3) c2, .slice la (k + 60) lc] 77))) := Hd.mk (S0.out.s17 77)
                clear hHeld
                refine hK.out _ _ trivial (fun hHeld => ?_)
                clear hK S0
                generalize V4.alloc (.cells #[Value.slice va k vc, .slice (some ⟨g1, 0, none⟩) (k + 1) c1, .slice (some ⟨g2, 0, none⟩) (k + 3) c2, .slice la (k + 60) lc] 77) = V5 at *
                generalize V4.heap.size = xM at *
                clear V4
                have S0 := S1
                clear S1
                try simp only [Act.put, List.setIfInBounds_toArray, List.set_cons_zero, List.set_cons_succ]
                refine wpAnyH_ready (rs := [18]) (by kernel_rfl) (by simp) ?_
                refine (AllReadyH.cons (o := { dst := some 51, op := Op.buildSlice 38 1 #[(0, Operand.tmp 50)], type := 38, pos := "law.go:63", after := #[{ on := 17, ground := Ground.data }], guard := none }) rfl (fun K hK => ?_) AllReadyH.nil)
                go_simp
                have S1 : Hd (St w lo Kn k 0 (.slice va k vc) (.slice la (k + 60) lc) (k + 60) (some x1) (some x3) (some (g1, c1)) (some (g2, c2)) (some xM) (some V5.heap.size) (V5.alloc (.cells #[Value.slice (some ⟨xM, 0, none⟩) 4 4] 82))) := Hd.mk (S0.out.s18 82)
                clear hHeld
                refine hK.out _ _ trivial (fun hHeld => ?_)
                clear hK S0
                generalize V5.alloc (.cells #[Value.slice (some ⟨xM, 0, none⟩) 4 4] 82) = V6 at *
                generalize V5.heap.size = xX at *
                clear V5
                have S0 := S1
                clear S1
                try simp only [Act.put, List.setIfInBounds_toArray, List.set_cons_zero, List.set_cons_succ]
                refine wpAnyH_ready (rs := [19]) (by kernel_rfl) (by simp) ?_
                refine (AllReadyH.cons (o := { dst := some 52, op := Op.call { callee := Callee.builtin Builtin.append, args := #[Operand.tmp 37, Operand.tmp 51], argTypes := #[38, 38] }, type := 38, pos := "law.go:63", after := #[{ on := 4, ground := Ground.data }, { on := 18, ground := Ground.data }, { on := 15, ground := Ground.chain }], guard := none }) rfl (fun K hK => ?_) AllReadyH.nil)
                rw [if_pos (by rfl)]
                obtain ⟨M_, eM, bX, _⟩ := S0.out.xX xX rfl
                cases eM
                refine wp_append_1 (.tmp 37) (.tmp 51) rfl lo (.slice oa Kn oc) Kn rows (.slice (some ⟨xM, 0, none⟩) 4 4) rfl (S0.out.kq.own hO.out (fun g q => (hko.out g q).2)) xX rfl bX rfl hK1 (Nat.le_trans hlo S0.out.kq.size) ?_
                intro gO cO V7 k1 k2 k3
                have F0 := Hd.mk (S0.out.fin A0.out hO.out hkv.out hko.out hl3.out k1 k2 k3)
                have bb : Hd (At V7 kb #[(.slice oa Kn oc)]) := Hd.mk (at_grown (S0.out.kq.at_ A0.out (fun q => hkv.out kb q rfl)) k2 (fun q => (hko.out kb q).1 rfl))
                clear hHeld
                refine hK.out _ _ trivial (fun hHeld => ?_)
                clear hK k1 k2 k3 bX S0 V6
                try simp only [Act.put, List.setIfInBounds_toArray, List.set_cons_zero, List.set_cons_succ]
                refine wpAnyH_take (i := 20) (oi := { dst := some 53, op := Op.nilCheck (Operand.tmp 33), type := 0, pos := "law.go:63", after := #[{ on := 0, ground := Ground.data }, { on := 0, ground := Ground.phase }, { on := 1, ground := Ground.phase }, { on := 2, ground := Ground.phase }, { on := 3, ground := Ground.phase }, { on := 4, ground := Ground.phase }, { on := 5, ground := Ground.phase }, { on := 6, ground := Ground.phase }, { on := 7, ground := Ground.phase }, { on := 8, ground := Ground.phase }, { on := 9, ground := Ground.phase }, { on := 10, ground := Ground.phase }, { on := 11, ground := Ground.phase }, { on := 12, ground := Ground.phase }, { on := 13, ground := Ground.phase }, { on := 14, ground := Ground.phase }, { on := 15, ground := Ground.phase }, { on := 16, ground := Ground.phase }, { on := 17, ground := Ground.phase }, { on := 18, ground := Ground.phase }, { on := 19, ground := Ground.phase }], guard := none }) (v := ?_) rfl (by kernel_rfl) (by kernel_rfl) (by kernel_rfl) (fun _ _ _ h => h) (Or.inl ⟨by rfl, ?_⟩) (by assumption) ?_
                rotate_left
                · intro w hSw; (try dsimp only at hSw); go_simp; first | done | with_reducible rfl
                try simp only [Act.put, List.setIfInBounds_toArray, List.set_cons_zero, List.set_cons_succ]
                refine wpAnyH_take (i := 21) (oi := { dst := some 54, op := Op.fieldAddr 40 (Operand.tmp 53) 0, type := 0, pos := "law.go:63", after := #[{ on := 20, ground := Ground.data }, { on := 0, ground := Ground.phase }, { on := 1, ground := Ground.phase }, { on := 2, ground := Ground.phase }, { on := 3, ground := Ground.phase }, { on := 4, ground := Ground.phase }, { on := 5, ground := Ground.phase }, { on := 6, ground := Ground.phase }, { on := 7, ground := Ground.phase }, { on := 8, ground := Ground.phase }, { on := 9, ground := Ground.phase }, { on := 10, ground := Ground.phase }, { on := 11, ground := Ground.phase }, { on := 12, ground := Ground.phase }, { on := 13, ground := Ground.phase }, { on := 14, ground := Ground.phase }, { on := 15, ground := Ground.phase }, { on := 16, ground := Ground.phase }, { on := 17, ground := Ground.phase }, { on := 18, ground := Ground.phase }, { on := 19, ground := Ground.phase }], guard := none }) (v := ?_) rfl (by kernel_rfl) (by kernel_rfl) (by kernel_rfl) (fun _ _ _ h => h) (Or.inl ⟨by rfl, ?_⟩) (by assumption) ?_
                rotate_left
                · intro w hSw; (try dsimp only at hSw); go_simp; first | done | with_reducible rfl
                try simp only [Act.put, List.setIfInBounds_toArray, List.set_cons_zero, List.set_cons_succ]
                refine wpAnyH_ready (rs := [22]) (by kernel_rfl) (by simp) ?_
                refine (AllReadyH.cons (o := { dst := none, op := Op.store 38 (Operand.tmp 54) (Operand.tmp 52), type := 0, pos := "law.go:63", after := #[{ on := 21, ground := Ground.data }, { on := 19, ground := Ground.data }, { on := 19, ground := Ground.chain }, { on := 0, ground := Ground.phase }, { on := 1, ground := Ground.phase }, { on := 2, ground := Ground.phase }, { on := 3, ground := Ground.phase }, { on := 4, ground := Ground.phase }, { on := 5, ground := Ground.phase }, { on := 6, ground := Ground.phase }, { on := 7, ground := Ground.phase }, { on := 8, ground := Ground.phase }, { on := 9, ground := Ground.phase }, { on := 10, ground := Ground.phase }, { on := 11, ground := Ground.phase }, { on := 12, ground := Ground.phase }, { on := 13, ground := Ground.phase }, { on := 14, ground := Ground.phase }, { on := 15, ground := Ground.phase }, { on := 16, ground := Ground.phase }, { on := 17, ground := Ground.phase }, { on := 18, ground := Ground.phase }, { on := 19, ground := Ground.phase }], guard := none }) rfl (fun K hK => ?_) AllReadyH.nil)
                have kbc : V7.cell? ⟨kb, 0, none⟩ = some (.slice oa Kn oc) := bb.out.2.1 0
                have kbf : V7.frozen? ⟨kb, 0, none⟩ = false := bb.out.2.2 0
                go_simp
                clear hHeld
                refine hK.out _ _ trivial (fun hHeld => ?_)
                clear hK kbc kbf
                try simp only [Act.put]
                refine wpAnyH_done (by kernel_rfl) ?_ _
                go_wp2_with fail
                simp [bodyPost, results, Try.results26, go_sem]
                exact ⟨gO, cO, xM, g1, c1, g2, c2, _, F0.out⟩
              · skip
                rw [if_pos (by rfl)]
                refine wp_append_m (mkI Kn) (.tmp 39) (.tmp 41) 77 42 _ 8 rfl Try.underlying77 infoU64 rfl (mkI_pos Kn) (mkI_one Kn) lo (.slice va k vc) k rfl S0.out.ov x1 1 1 rfl (S0.out.x1 x1 rfl).1 (by decide) (by unfold maxLen; omega) (by omega) (Nat.le_trans hlo S0.out.kq.size) ?_
                intro g1 c1 V3 k1 k2 k3 k4 k5 k6
                have S1 : Hd (St w lo Kn k 0 (.slice va k vc) (.slice la (k + 60) lc) (k + 60) (some x1) (some x3) (some (g1, c1)) none none none V3) := Hd.mk (S0.out.a1 hvb.out k1 k2 k3 k5 k6)
                clear hHeld
                refine hK.out _ _ trivial (fun hHeld => ?_)
                clear hK k1 k2 k3 k4 k5 k6 S0 V2
                have S0 := S1
                clear S1
                try simp only [Act.put, List.setIfInBounds_toArray, List.set_cons_zero, List.set_cons_succ]
                refine wpAnyH_ready (rs := [4, 15]) (by kernel_rfl) (by simp) ?_
                refine (AllReadyH.cons (o := { dst := some 37, op := Op.load 38 (Operand.tmp 36), type := 38, pos := "law.go:63", after := #[{ on := 3, ground := Ground.data }], guard := none }) rfl (fun K hK => ?_) (AllReadyH.cons (o := { dst := some 48, op := Op.call { callee := Callee.builtin Builtin.append, args := #[Operand.tmp 43, Operand.tmp 47], argTypes := #[77, 77] }, type := 77, pos := "law.go:63", after := #[{ on := 10, ground := Ground.data }, { on := 14, ground := Ground.data }, { on := 9, ground := Ground.chain }], guard := none }) rfl (fun K hK => ?_) AllReadyH.nil))
                · skip
                  have kbc : V3.cell? ⟨kb, 0, none⟩ = some (.slice oa Kn oc) := (S0.out.kq.at_ A0.out (fun q => hkv.out kb q rfl)).2.1 0
                  go_simp
                  clear hHeld
                  refine hK.out _ _ trivial (fun hHeld => ?_)
                  clear hK kbc
                  try simp only [Act.put, List.setIfInBounds_toArray, List.set_cons_zero, List.set_cons_succ]
                  refine wpAnyH_ready (rs := [15]) (by kernel_rfl) (by simp) ?_
                  refine (AllReadyH.cons (o := { dst := some 48, op := Op.call { callee := Callee.builtin Builtin.append, args := #[Operand.tmp 43, Operand.tmp 47], argTypes := #[77, 77] }, type := 77, pos := "law.go:63", after := #[{ on := 10, ground := Ground.data }, { on := 14, ground := Ground.data }, { on := 9, ground := Ground.chain }], guard := none }) rfl (fun K hK => ?_) AllReadyH.nil)
                  rw [if_pos (by rfl)]
                  refine wp_append_m (mkI Kn) (.tmp 43) (.tmp 47) 77 42 _ 8 rfl Try.underlying77 infoU64 rfl (mkI_pos Kn) (mkI_one Kn) lo (.slice va k vc) k rfl S0.out.ov x3 3 3 rfl (S0.out.x3 x3 rfl).1 (by decide) (by unfold maxLen; omega) (by omega) (Nat.le_trans hlo S0.out.kq.size) ?_
                  intro g2 c2 V4 k1 k2 k3 k4 k5 k6
                  have S1 : Hd (St w lo Kn k 0 (.slice va k vc) (.slice la (k + 60) lc) (k + 60) (some x1) (some x3) (some (g1, c1)) (some (g2, c2)) none none V4) := Hd.mk (S0.out.a2 hvb.out k1 k2 k3 k5 k6)
                  clear hHeld
                  refine hK.out _ _ trivial (fun hHeld => ?_)
                  clear hK k1 k2 k3 k4 k5 k6 S0 V3
                  have S0 := S1
                  clear S1
                  try simp only [Act.put, List.setIfInBounds_toArray, List.set_cons_zero, List.set_cons_succ]
                  refine wpAnyH_ready (rs := [17]) (by kernel_rfl) (by simp) ?_
                  refine (AllReadyH.cons (o := { dst := some 50, op := Op.buildSlice 82 4 #[(0, Operand.tmp 38), (1, Operand.tmp 42), (2, Operand.tmp 48), (3, Operand.tmp 49)], type := 82, pos := "law.go:63", after := #[{ on := 5, ground := Ground.data }, { on := 9, ground := Ground.data }, { on := 15, ground := Ground.data }, { on := 16, ground := Ground.data }], guard := none }) rfl (fun K hK => ?_) AllReadyH.nil)
                  go_simp
                  have S1 : Hd (St w lo Kn k 0 (.slice va k vc) (.slice la (k + 60) lc) (k + 60) (some x1) (some x3) (some (g1, c1)) (some (g2, c2)) (some V4.heap.size) none (V4.alloc (.cells #[Value.slice va k vc, .slice (some ⟨g1, 0, none⟩) (k + 1) c1, .slice (some ⟨g2, 0, none⟩) (k + 3) c2, .slice la (k + 60) lc] 77))) := Hd.mk (S0.out.s17 77)
                  clear hHeld
                  refine hK.out _ _ trivial (fun hHeld => ?_)
                  clear hK S0
                  generalize V4.alloc (.cells #[Value.slice va k vc, .slice (some ⟨g1, 0, none⟩) (k + 1) c1, .slice (some ⟨g2, 0, none⟩) (k + 3) c2, .slice la (k + 60) lc] 77) = V5 at *
                  generalize V4.heap.size = xM at *
                  clear V4
                  have S0 := S1
                  clear S1
                  try simp only [Act.put, List.setIfInBounds_toArray, List.set_cons_zero, List.set_cons_succ]
                  refine wpAnyH_ready (rs := [18]) (by kernel_rfl) (by simp) ?_
                  refine (AllReadyH.cons (o := { dst := some 51, op := Op.buildSlice 38 1 #[(0, Operand.tmp 50)], type := 38, pos := "law.go:63", after := #[{ on := 17, ground := Ground.data }], guard := none }) rfl (fun K hK => ?_) AllReadyH.nil)
                  go_simp
                  have S1 : Hd (St w lo Kn k 0 (.slice va k vc) (.slice la (k + 60) lc) (k + 60) (some x1) (some x3) (some (g1, c1)) (some (g2, c2)) (some xM) (some V5.heap.size) (V5.alloc (.cells #[Value.slice (some ⟨xM, 0, none⟩) 4 4] 82))) := Hd.mk (S0.out.s18 82)
                  clear hHeld
                  refine hK.out _ _ trivial (fun hHeld => ?_)
                  clear hK S0
                  generalize V5.alloc (.cells #[Value.slice (some ⟨xM, 0, none⟩) 4 4] 82) = V6 at *
                  generalize V5.heap.size = xX at *
                  clear V5
                  have S0 := S1
                  clear S1
                  try simp only [Act.put, List.setIfInBounds_toArray, List.set_cons_zero, List.set_cons_succ]
                  refine wpAnyH_ready (rs := [19]) (by kernel_rfl) (by simp) ?_
                  refine (AllReadyH.cons (o := { dst := some 52, op := Op.call { callee := Callee.builtin Builtin.append, args := #[Operand.tmp 37, Operand.tmp 51], argTypes := #[38, 38] }, type := 38, pos := "law.go:63", after := #[{ on := 4, ground := Ground.data }, { on := 18, ground := Ground.data }, { on := 15, ground := Ground.chain }], guard := none }) rfl (fun K hK => ?_) AllReadyH.nil)
                  rw [if_pos (by rfl)]
                  obtain ⟨M_, eM, bX, _⟩ := S0.out.xX xX rfl
                  cases eM
                  refine wp_append_1 (.tmp 37) (.tmp 51) rfl lo (.slice oa Kn oc) Kn rows (.slice (some ⟨xM, 0, none⟩) 4 4) rfl (S0.out.kq.own hO.out (fun g q => (hko.out g q).2)) xX rfl bX rfl hK1 (Nat.le_trans hlo S0.out.kq.size) ?_
                  intro gO cO V7 k1 k2 k3
                  have F0 := Hd.mk (S0.out.fin A0.out hO.out hkv.out hko.out hl3.out k1 k2 k3)
                  have bb : Hd (At V7 kb #[(.slice oa Kn oc)]) := Hd.mk (at_grown (S0.out.kq.at_ A0.out (fun q => hkv.out kb q rfl)) k2 (fun q => (hko.out kb q).1 rfl))
                  clear hHeld
                  refine hK.out _ _ trivial (fun hHeld => ?_)
                  clear hK k1 k2 k3 bX S0 V6
                  try simp only [Act.put, List.setIfInBounds_toArray, List.set_cons_zero, List.set_cons_succ]
                  refine wpAnyH_take (i := 20) (oi := { dst := some 53, op := Op.nilCheck (Operand.tmp 33), type := 0, pos := "law.go:63", after := #[{ on := 0, ground := Ground.data }, { on := 0, ground := Ground.phase }, { on := 1, ground := Ground.phase }, { on := 2, ground := Ground.phase }, { on := 3, ground := Ground.phase }, { on := 4, ground := Ground.phase }, { on := 5, ground := Ground.phase }, { on := 6, ground := Ground.phase }, { on := 7, ground := Ground.phase }, { on := 8, ground := Ground.phase }, { on := 9, ground := Ground.phase }, { on := 10, ground := Ground.phase }, { on := 11, ground := Ground.phase }, { on := 12, ground := Ground.phase }, { on := 13, ground := Ground.phase }, { on := 14, ground := Ground.phase }, { on := 15, ground := Ground.phase }, { on := 16, ground := Ground.phase }, { on := 17, ground := Ground.phase }, { on := 18, ground := Ground.phase }, { on := 19, ground := Ground.phase }], guard := none }) (v := ?_) rfl (by kernel_rfl) (by kernel_rfl) (by kernel_rfl) (fun _ _ _ h => h) (Or.inl ⟨by rfl, ?_⟩) (by assumption) ?_
                  rotate_left
                  · intro w hSw; (try dsimp only at hSw); go_simp; first | done | with_reducible rfl
                  try simp only [Act.put, List.setIfInBounds_toArray, List.set_cons_zero, List.set_cons_succ]
                  refine wpAnyH_take (i := 21) (oi := { dst := some 54, op := Op.fieldAddr 40 (Operand.tmp 53) 0, type := 0, pos := "law.go:63", after := #[{ on := 20, ground := Ground.data }, { on := 0, ground := Ground.phase }, { on := 1, ground := Ground.phase }, { on := 2, ground := Ground.phase }, { on := 3, ground := Ground.phase }, { on := 4, ground := Ground.phase }, { on := 5, ground := Ground.phase }, { on := 6, ground := Ground.phase }, { on := 7, ground := Ground.phase }, { on := 8, ground := Ground.phase }, { on := 9, ground := Ground.phase }, { on := 10, ground := Ground.phase }, { on := 11, ground := Ground.phase }, { on := 12, ground := Ground.phase }, { on := 13, ground := Ground.phase }, { on := 14, ground := Ground.phase }, { on := 15, ground := Ground.phase }, { on := 16, ground := Ground.phase }, { on := 17, ground := Ground.phase }, { on := 18, ground := Ground.phase }, { on := 19, ground := Ground.phase }], guard := none }) (v := ?_) rfl (by kernel_rfl) (by kernel_rfl) (by kernel_rfl) (fun _ _ _ h => h) (Or.inl ⟨by rfl, ?_⟩) (by assumption) ?_
                  rotate_left
                  · intro w hSw; (try dsimp only at hSw); go_simp; first | done | with_reducible rfl
                  try simp only [Act.put, List.setIfInBounds_toArray, List.set_cons_zero, List.set_cons_succ]
                  refine wpAnyH_ready (rs := [22]) (by kernel_rfl) (by simp) ?_
                  refine (AllReadyH.cons (o := { dst := none, op := Op.store 38 (Operand.tmp 54) (Operand.tmp 52), type := 0, pos := "law.go:63", after := #[{ on := 21, ground := Ground.data }, { on := 19, ground := Ground.data }, { on := 19, ground := Ground.chain }, { on := 0, ground := Ground.phase }, { on := 1, ground := Ground.phase }, { on := 2, ground := Ground.phase }, { on := 3, ground := Ground.phase }, { on := 4, ground := Ground.phase }, { on := 5, ground := Ground.phase }, { on := 6, ground := Ground.phase }, { on := 7, ground := Ground.phase }, { on := 8, ground := Ground.phase }, { on := 9, ground := Ground.phase }, { on := 10, ground := Ground.phase }, { on := 11, ground := Ground.phase }, { on := 12, ground := Ground.phase }, { on := 13, ground := Ground.phase }, { on := 14, ground := Ground.phase }, { on := 15, ground := Ground.phase }, { on := 16, ground := Ground.phase }, { on := 17, ground := Ground.phase }, { on := 18, ground := Ground.phase }, { on := 19, ground := Ground.phase }], guard := none }) rfl (fun K hK => ?_) AllReadyH.nil)
                  have kbc : V7.cell? ⟨kb, 0, none⟩ = some (.slice oa Kn oc) := bb.out.2.1 0
                  have kbf : V7.frozen? ⟨kb, 0, none⟩ = false := bb.out.2.2 0
                  go_simp
                  clear hHeld
                  refine hK.out _ _ trivial (fun hHeld => ?_)
                  clear hK kbc kbf
                  try simp only [Act.put]
                  refine wpAnyH_done (by kernel_rfl) ?_ _
                  go_wp2_with fail
                  simp [bodyPost, results, Try.results26, go_sem]
                  exact ⟨gO, cO, xM, g1, c1, g2, c2, _, F0.out⟩
                · skip
                  rw [if_pos (by rfl)]
                  refine wp_append_m (mkI Kn) (.tmp 43) (.tmp 47) 77 42 _ 8 rfl Try.underlying77 infoU64 rfl (mkI_pos Kn) (mkI_one Kn) lo (.slice va k vc) k rfl S0.out.ov x3 3 3 rfl (S0.out.x3 x3 rfl).1 (by decide) (by unfold maxLen; omega) (by omega) (Nat.le_trans hlo S0.out.kq.size) ?_
                  intro g2 c2 V4 k1 k2 k3 k4 k5 k6
                  have S1 : Hd (St w lo Kn k 0 (.slice va k vc) (.slice la (k + 60) lc) (k + 60) (some x1) (some x3) (some (g1, c1)) (some (g2, c2)) none none V4) := Hd.mk (S0.out.a2 hvb.out k1 k2 k3 k5 k6)
                  clear hHeld
                  refine hK.out _ _ trivial (fun hHeld => ?_)
                  clear hK k1 k2 k3 k4 k5 k6 S0 V3
                  have S0 := S1
                  clear S1
                  try simp only [Act.put, List.setIfInBounds_toArray, List.set_cons_zero, List.set_cons_succ]
                  refine wpAnyH_ready (rs := [4, 17]) (by kernel_rfl) (by simp) ?_
                  refine (AllReadyH.cons (o := { dst := some 37, op := Op.load 38 (Operand.tmp 36), type := 38, pos := "law.go:63", after := #[{ on := 3, ground := Ground.data }], guard := none }) rfl (fun K hK => ?_) (AllReadyH.cons (o := { dst := some 50, op := Op.buildSlice 82 4 #[(0, Operand.tmp 38), (1, Operand.tmp 42), (2, Operand.tmp 48), (3, Operand.tmp 49)], type := 82, pos := "law.go:63", after := #[{ on := 5, ground := Ground.data }, { on := 9, ground := Ground.data }, { on := 15, ground := Ground.data }, { on := 16, ground := Ground.data }], guard := none }) rfl (fun K hK => ?_) AllReadyH.nil))
                  · skip
                    have kbc : V4.cell? ⟨kb, 0, none⟩ = some (.slice oa Kn oc) := (S0.out.kq.at_ A0.out (fun q => hkv.out kb q rfl)).2.1 0
                    go_simp
                    clear hHeld
                    refine hK.out _ _ trivial (fun hHeld => ?_)
                    clear hK kbc
                    try simp only [Act.put, List.setIfInBounds_toArray, List.set_cons_zero, List.set_cons_succ]
                    refine wpAnyH_ready (rs := [17]) (by kernel_rfl) (by simp) ?_
                    refine (AllReadyH.cons (o := { dst := some 50, op := Op.buildSlice 82 4 #[(0, Operand.tmp 38), (1, Operand.tmp 42), (2, Operand.tmp 48), (3, Operand.tmp 49)], type := 82, pos := "law.go:63", after := #[{ on := 5, ground := Ground.data }, { on := 9, ground := Ground.data }, { on := 15, ground := Ground.data }, { on := 16, ground := Ground.data }], guard := none }) rfl (fun K hK => ?_) AllReadyH.nil)
                    go_simp
                    have S1 : Hd (St w lo Kn k 0 (.slice va k vc) (.slice la (k + 60) lc) (k + 60) (some x1) (some x3) (some (g1, c1)) (some (g2, c2)) (some V4.heap.size) none (V4.alloc (.cells #[Value.slice va k vc, .slice (some ⟨g1, 0, none⟩) (k + 1) c1, .slice (some ⟨g2, 0, none⟩) (k + 3) c2, .slice la (k + 60) lc] 77))) := Hd.mk (S0.out.s17 77)
                    clear hHeld
                    refine hK.out _ _ trivial (fun hHeld => ?_)
                    clear hK S0
                    generalize V4.alloc (.cells #[Value.slice va k vc, .slice (some ⟨g1, 0, none⟩) (k + 1) c1, .slice (some ⟨g2, 0, none⟩) (k + 3) c2, .slice la (k + 60) lc] 77) = V5 at *
                    generalize V4.heap.size = xM at *
                    clear V4
                    have S0 := S1
                    clear S1
                    try simp only [Act.put, List.setIfInBounds_toArray, List.set_cons_zero, List.set_cons_succ]
                    refine wpAnyH_ready (rs := [18]) (by kernel_rfl) (by simp) ?_
                    refine (AllReadyH.cons (o := { dst := some 51, op := Op.buildSlice 38 1 #[(0, Operand.tmp 50)], type := 38, pos := "law.go:63", after := #[{ on := 17, ground := Ground.data }], guard := none }) rfl (fun K hK => ?_) AllReadyH.nil)
                    go_simp
                    have S1 : Hd (St w lo Kn k 0 (.slice va k vc) (.slice la (k + 60) lc) (k + 60) (some x1) (some x3) (some (g1, c1)) (some (g2, c2)) (some xM) (some V5.heap.size) (V5.alloc (.cells #[Value.slice (some ⟨xM, 0, none⟩) 4 4] 82))) := Hd.mk (S0.out.s18 82)
                    clear hHeld
                    refine hK.out _ _ trivial (fun hHeld => ?_)
                    clear hK S0
                    generalize V5.alloc (.cells #[Value.slice (some ⟨xM, 0, none⟩) 4 4] 82) = V6 at *
                    generalize V5.heap.size = xX at *
                    clear V5
                    have S0 := S1
                    clear S1
                    try simp only [Act.put, List.setIfInBounds_toArray, List.set_cons_zero, List.set_cons_succ]
                    refine wpAnyH_ready (rs := [19]) (by kernel_rfl) (by simp) ?_
                    refine (AllReadyH.cons (o := { dst := some 52, op := Op.call { callee := Callee.builtin Builtin.append, args := #[Operand.tmp 37, Operand.tmp 51], argTypes := #[38, 38] }, type := 38, pos := "law.go:63", after := #[{ on := 4, ground := Ground.data }, { on := 18, ground := Ground.data }, { on := 15, ground := Ground.chain }], guard := none }) rfl (fun K hK => ?_) AllReadyH.nil)
                    rw [if_pos (by rfl)]
                    obtain ⟨M_, eM, bX, _⟩ := S0.out.xX xX rfl
                    cases eM
                    refine wp_append_1 (.tmp 37) (.tmp 51) rfl lo (.slice oa Kn oc) Kn rows (.slice (some ⟨xM, 0, none⟩) 4 4) rfl (S0.out.kq.own hO.out (fun g q => (hko.out g q).2)) xX rfl bX rfl hK1 (Nat.le_trans hlo S0.out.kq.size) ?_
                    intro gO cO V7 k1 k2 k3
                    have F0 := Hd.mk (S0.out.fin A0.out hO.out hkv.out hko.out hl3.out k1 k2 k3)
                    have bb : Hd (At V7 kb #[(.slice oa Kn oc)]) := Hd.mk (at_grown (S0.out.kq.at_ A0.out (fun q => hkv.out kb q rfl)) k2 (fun q => (hko.out kb q).1 rfl))
                    clear hHeld
                    refine hK.out _ _ trivial (fun hHeld => ?_)
                    clear hK k1 k2 k3 bX S0 V6
                    try simp only [Act.put, List.setIfInBounds_toArray, List.set_cons_zero, List.set_cons_succ]
                    refine wpAnyH_take (i := 20) (oi := { dst := some 53, op := Op.nilCheck (Operand.tmp 33), type := 0, pos := "law.go:63", after := #[{ on := 0, ground := Ground.data }, { on := 0, ground := Ground.phase }, { on := 1, ground := Ground.phase }, { on := 2, ground := Ground.phase }, { on := 3, ground := Ground.phase }, { on := 4, ground := Ground.phase }, { on := 5, ground := Ground.phase }, { on := 6, ground := Ground.phase }, { on := 7, ground := Ground.phase }, { on := 8, ground := Ground.phase }, { on := 9, ground := Ground.phase }, { on := 10, ground := Ground.phase }, { on := 11, ground := Ground.phase }, { on := 12, ground := Ground.phase }, { on := 13, ground := Ground.phase }, { on := 14, ground := Ground.phase }, { on := 15, ground := Ground.phase }, { on := 16, ground := Ground.phase }, { on := 17, ground := Ground.phase }, { on := 18, ground := Ground.phase }, { on := 19, ground := Ground.phase }], guard := none }) (v := ?_) rfl (by kernel_rfl) (by kernel_rfl) (by kernel_rfl) (fun _ _ _ h => h) (Or.inl ⟨by rfl, ?_⟩) (by assumption) ?_
                    rotate_left
                    · intro w hSw; (try dsimp only at hSw); go_simp; first | done | with_reducible rfl
                    try simp only [Act.put, List.setIfInBounds_toArray, List.set_cons_zero, List.set_cons_succ]
                    refine wpAnyH_take (i := 21) (oi := { dst := some 54, op := Op.fieldAddr 40 (Operand.tmp 53) 0, type := 0, pos := "law.go:63", after := #[{ on := 20, ground := Ground.data }, { on := 0, ground := Ground.phase }, { on := 1, ground := Ground.phase }, { on := 2, ground := Ground.phase }, { on := 3, ground := Ground.phase }, { on := 4, ground := Ground.phase }, { on := 5, ground := Ground.phase }, { on := 6, ground := Ground.phase }, { on := 7, ground := Ground.phase }, { on := 8, ground := Ground.phase }, { on := 9, ground := Ground.phase }, { on := 10, ground := Ground.phase }, { on := 11, ground := Ground.phase }, { on := 12, ground := Ground.phase }, { on := 13, ground := Ground.phase }, { on := 14, ground := Ground.phase }, { on := 15, ground := Ground.phase }, { on := 16, ground := Ground.phase }, { on := 17, ground := Ground.phase }, { on := 18, ground := Ground.phase }, { on := 19, ground := Ground.phase }], guard := none }) (v := ?_) rfl (by kernel_rfl) (by kernel_rfl) (by kernel_rfl) (fun _ _ _ h => h) (Or.inl ⟨by rfl, ?_⟩) (by assumption) ?_
                    rotate_left
                    · intro w hSw; (try dsimp only at hSw); go_simp; first | done | with_reducible rfl
                    try simp only [Act.put, List.setIfInBounds_toArray, List.set_cons_zero, List.set_cons_succ]
                    refine wpAnyH_ready (rs := [22]) (by kernel_rfl) (by simp) ?_
                    refine (AllReadyH.cons (o := { dst := none, op := Op.store 38 (Operand.tmp 54) (Operand.tmp 52), type := 0, pos := "law.go:63", after := #[{ on := 21, ground := Ground.data }, { on := 19, ground := Ground.data }, { on := 19, ground := Ground.chain }, { on := 0, ground := Ground.phase }, { on := 1, ground := Ground.phase }, { on := 2, ground := Ground.phase }, { on := 3, ground := Ground.phase }, { on := 4, ground := Ground.phase }, { on := 5, ground := Ground.phase }, { on := 6, ground := Ground.phase }, { on := 7, ground := Ground.phase }, { on := 8, ground := Ground.phase }, { on := 9, ground := Ground.phase }, { on := 10, ground := Ground.phase }, { on := 11, ground := Ground.phase }, { on := 12, ground := Ground.phase }, { on := 13, ground := Ground.phase }, { on := 14, ground := Ground.phase }, { on := 15, ground := Ground.phase }, { on := 16, ground := Ground.phase }, { on := 17, ground := Ground.phase }, { on := 18, ground := Ground.phase }, { on := 19, ground := Ground.phase }], guard := none }) rfl (fun K hK => ?_) AllReadyH.nil)
                    have kbc : V7.cell? ⟨kb, 0, none⟩ = some (.slice oa Kn oc) := bb.out.2.1 0
                    have kbf : V7.frozen? ⟨kb, 0, none⟩ = false := bb.out.2.2 0
                    go_simp
                    clear hHeld
                    refine hK.out _ _ trivial (fun hHeld => ?_)
                    clear hK kbc kbf
                    try simp only [Act.put]
                    refine wpAnyH_done (by kernel_rfl) ?_ _
                    go_wp2_with fail
                    simp [bodyPost, results, Try.results26, go_sem]
                    exact ⟨gO, cO, xM, g1, c1, g2, c2, _, F0.out⟩
                  · skip
                    go_simp
                    have S1 : Hd (St w lo Kn k 0 (.slice va k vc) (.slice la (k + 60) lc) (k + 60) (some x1) (some x3) (some (g1, c1)) (some (g2, c2)) (some V4.heap.size) none (V4.alloc (.cells #[Value.slice va k vc, .slice (some ⟨g1, 0, none⟩) (k + 1) c1, .slice (some ⟨g2, 0, none⟩) (k + 3) c2, .slice la (k + 60) lc] 77))) := Hd.mk (S0.out.s17 77)
                    clear hHeld
                    refine hK.out _ _ trivial (fun hHeld => ?_)
                    clear hK S0
                    generalize V4.alloc (.cells #[Value.slice va k vc, .slice (some ⟨g1, 0, none⟩) (k + 1) c1, .slice (some ⟨g2, 0, none⟩) (k + 3) c2, .slice la (k + 60) lc] 77) = V5 at *
                    generalize V4.heap.size = xM at *
                    clear V4
                    have S0 := S1
                    clear S1
                    try simp only [Act.put, List.setIfInBounds_toArray, List.set_cons_zero, List.set_cons_succ]
                    refine wpAnyH_ready (rs := [4, 18]) (by kernel_rfl) (by simp) ?_
                    refine (AllReadyH.cons (o := { dst := some 37, op := Op.load 38 (Operand.tmp 36), type := 38, pos := "law.go:63", after := #[{ on := 3, ground := Ground.data }], guard := none }) rfl (fun K hK => ?_) (AllReadyH.cons (o := { dst := some 51, op := Op.buildSlice 38 1 #[(0, Operand.tmp 50)], type := 38, pos := "law.go:63", after := #[{ on := 17, ground := Ground.data }], guard := none }) rfl (fun K hK => ?_) AllReadyH.nil))
                    · skip
                      have kbc : V5.cell? ⟨kb, 0, none⟩ = some (.slice oa Kn oc) := (S0.out.kq.at_ A0.out (fun q => hkv.out kb q rfl)).2.1 0
                      go_simp
                      clear hHeld
                      refine hK.out _ _ trivial (fun hHeld => ?_)
                      clear hK kbc
                      try simp only [Act.put, List.setIfInBounds_toArray, List.set_cons_zero, List.set_cons_succ]
                      refine wpAnyH_ready (rs := [18]) (by kernel_rfl) (by simp) ?_
                      refine (AllReadyH.cons (o := { dst := some 51, op := Op.buildSlice 38 1 #[(0, Operand.tmp 50)], type := 38, pos := "law.go:63", after := #[{ on := 17, ground := Ground.data }], guard := none }) rfl (fun K hK => ?_) AllReadyH.nil)
                      go_simp
                      have S1 : Hd (St w lo Kn k 0 (.slice va k vc) (.slice la (k + 60) lc) (k + 60) (some x1) (some x3) (some (g1, c1)) (some (g2, c2)) (some xM) (some V5.heap.size) (V5.alloc (.cells #[Value.slice (some ⟨xM, 0, none⟩) 4 4] 82))) := Hd.mk (S0.out.s18 82)
                      clear hHeld
                      refine hK.out _ _ trivial (fun hHeld => ?_)
                      clear hK S0
                      generalize V5.alloc (.cells #[Value.slice (some ⟨xM, 0, none⟩) 4 4] 82) = V6 at *
                      generalize V5.heap.size = xX at *
                      clear V5
                      have S0 := S1
                      clear S1
                      try simp only [Act.put, List.setIfInBounds_toArray, List.set_cons_zero, List.set_cons_succ]
                      refine wpAnyH_ready (rs := [19]) (by kernel_rfl) (by simp) ?_
                      refine (AllReadyH.cons (o := { dst := some 52, op := Op.call { callee := Callee.builtin Builtin.append, args := #[Operand.tmp 37, Operand.tmp 51], argTypes := #[38, 38] }, type := 38, pos := "law.go:63", after := #[{ on := 4, ground := Ground.data }, { on := 18, ground := Ground.data }, { on := 15, ground := Ground.chain }], guard := none }) rfl (fun K hK => ?_) AllReadyH.nil)
                      rw [if_pos (by rfl)]
                      obtain ⟨M_, eM, bX, _⟩ := S0.out.xX xX rfl
                      cases eM
                      refine wp_append_1 (.tmp 37) (.tmp 51) rfl lo (.slice oa Kn oc) Kn rows (.slice (some ⟨xM, 0, none⟩) 4 4) rfl (S0.out.kq.own hO.out (fun g q => (hko.out g q).2)) xX rfl bX rfl hK1 (Nat.le_trans hlo S0.out.kq.size) ?_
                      intro gO cO V7 k1 k2 k3
                      have F0 := Hd.mk (S0.out.fin A0.out hO.out hkv.out hko.out hl3.out k1 k2 k3)
                      have bb : Hd (At V7 kb #[(.slice oa Kn oc)]) := Hd.mk (at_grown (S0.out.kq.at_ A0.out (fun q => hkv.out kb q rfl)) k2 (fun q => (hko.out kb q).1 rfl))
                      clear hHeld
                      refine hK.out _ _ trivial (fun hHeld => ?_)
                      clear hK k1 k2 k3 bX S0 V6
                      try simp only [Act.put, List.setIfInBounds_toArray, List.set_cons_zero, List.set_cons_succ]
                      refine wpAnyH_take (i := 20) (oi := { dst := some 53, op := Op.nilCheck (Operand.tmp 33), type := 0, pos := "law.go:63", after := #[{ on := 0, ground := Ground.data }, { on := 0, ground := Ground.phase }, { on := 1, ground := Ground.phase }, { on := 2, ground := Ground.phase }, { on := 3, ground := Ground.phase }, { on := 4, ground := Ground.phase }, { on := 5, ground := Ground.phase }, { on := 6, ground := Ground.phase }, { on := 7, ground := Ground.phase }, { on := 8, ground := Ground.phase }, { on := 9, ground := Ground.phase }, { on := 10, ground := Ground.phase }, { on := 11, ground := Ground.phase }, { on := 12, ground := Ground.phase }, { on := 13, ground := Ground.phase }, { on := 14, ground := Ground.phase }, { on := 15, ground := Ground.phase }, { on := 16, ground := Ground.phase }, { on := 17, ground := Ground.phase }, { on := 18, ground := Ground.phase }, { on := 19, ground := Ground.phase }], guard := none }) (v := ?_) rfl (by kernel_rfl) (by kernel_rfl) (by kernel_rfl) (fun _ _ _ h => h) (Or.inl ⟨by rfl, ?_⟩) (by assumption) ?_
                      rotate_left
                      · intro w hSw; (try dsimp only at hSw); go_simp; first | done | with_reducible rfl
                      try simp only [Act.put, List.setIfInBounds_toArray, List.set_cons_zero, List.set_cons_succ]
                      refine wpAnyH_take (i := 21) (oi := { dst := some 54, op := Op.fieldAddr 40 (Operand.tmp 53) 0, type := 0, pos := "law.go:63", after := #[{ on := 20, ground := Ground.data }, { on := 0, ground := Ground.phase }, { on := 1, ground := Ground.phase }, { on := 2, ground := Ground.phase }, { on := 3, ground := Ground.phase }, { on := 4, ground := Ground.phase }, { on := 5, ground := Ground.phase }, { on := 6, ground := Ground.phase }, { on := 7, ground := Ground.phase }, { on := 8, ground := Ground.phase }, { on := 9, ground := Ground.phase }, { on := 10, ground := Ground.phase }, { on := 11, ground := Ground.phase }, { on := 12, ground := Ground.phase }, { on := 13, ground := Ground.phase }, { on := 14, ground := Ground.phase }, { on := 15, ground := Ground.phase }, { on := 16, ground := Ground.phase }, { on := 17, ground := Ground.phase }, { on := 18, ground := Ground.phase }, { on := 19, ground := Ground.phase }], guard := none }) (v := ?_) rfl (by kernel_rfl) (by kernel_rfl) (by kernel_rfl) (fun _ _ _ h => h) (Or.inl ⟨by rfl, ?_⟩) (by assumption) ?_
                      rotate_left
                      · intro w hSw; (try dsimp only at hSw); go_simp; first | done | with_reducible rfl
                      try simp only [Act.put, List.setIfInBounds_toArray, List.set_cons_zero, List.set_cons_succ]
                      refine wpAnyH_ready (rs := [22]) (by kernel_rfl) (by simp) ?_
                      refine (AllReadyH.cons (o := { dst := none, op := Op.store 38 (Operand.tmp 54) (Operand.tmp 52), type := 0, pos := "law.go:63", after := #[{ on := 21, ground := Ground.data }, { on := 19, ground := Ground.data }, { on := 19, ground := Ground.chain }, { on := 0, ground := Ground.phase }, { on := 1, ground := Ground.phase }, { on := 2, ground := Ground.phase }, { on := 3, ground := Ground.phase }, { on := 4, ground := Ground.phase }, { on := 5, ground := Ground.phase }, { on := 6, ground := Ground.phase }, { on := 7, ground := Ground.phase }, { on := 8, ground := Ground.phase }, { on := 9, ground := Ground.phase }, { on := 10, ground := Ground.phase }, { on := 11, ground := Ground.phase }, { on := 12, ground := Ground.phase }, { on := 13, ground := Ground.phase }, { on := 14, ground := Ground.phase }, { on := 15, ground := Ground.phase }, { on := 16, ground := Ground.phase }, { on := 17, ground := Ground.phase }, { on := 18, ground := Ground.phase }, { on := 19, ground := Ground.phase }], guard := none }) rfl (fun K hK => ?_) AllReadyH.nil)
                      have kbc : V7.cell? ⟨kb, 0, none⟩ = some (.slice oa Kn oc) := bb.out.2.1 0
                      have kbf : V7.frozen? ⟨kb, 0, none⟩ = false := bb.out.2.2 0
                      go_simp
                      clear hHeld
                      refine hK.out _ _ trivial (fun hHeld => ?_)
                      clear hK kbc kbf
                      try simp only [Act.put]
                      refine wpAnyH_done (by kernel_rfl) ?_ _
                      go_wp2_with fail
                      simp [bodyPost, results, Try.results26, go_sem]
                      exact ⟨gO, cO, xM, g1, c1, g2, c2, _, F0.out⟩
                    · skip
                      go_simp
                      have S1 : Hd (St w lo Kn k 0 (.slice va k vc) (.slice la (k + 60) lc) (k + 60) (some x1) (some x3) (some (g1, c1)) (some (g2, c2)) (some xM) (some V5.heap.size) (V5.alloc (.cells #[Value.slice (some ⟨xM, 0, none⟩) 4 4] 82))) := Hd.mk (S0.out.s18 82)
                      clear hHeld
                      refine hK.out _ _ trivial (fun hHeld => ?_)
                      clear hK S0
                      generalize V5.alloc (.cells #[Value.slice (some ⟨xM, 0, none⟩) 4 4] 82) = V6 at *
                      generalize V5.heap.size = xX at *
                      clear V5
                      have S0 := S1
                      clear S1
                      try simp only [Act.put, List.setIfInBounds_toArray, List.set_cons_zero, List.set_cons_succ]
                      refine wpAnyH_ready (rs := [4]) (by kernel_rfl) (by simp) ?_
                      refine (AllReadyH.cons (o := { dst := some 37, op := Op.load 38 (Operand.tmp 36), type := 38, pos := "law.go:63", after := #[{ on := 3, ground := Ground.data }], guard := none }) rfl (fun K hK => ?_) AllReadyH.nil)
                      have kbc : V6.cell? ⟨kb, 0, none⟩ = some (.slice oa Kn oc) := (S0.out.kq.at_ A0.out (fun q => hkv.out kb q rfl)).2.1 0
                      go_simp
                      clear hHeld
                      refine hK.out _ _ trivial (fun hHeld => ?_)
                      clear hK kbc
                      try simp only [Act.put, List.setIfInBounds_toArray, List.set_cons_zero, List.set_cons_succ]
                      refine wpAnyH_ready (rs := [19]) (by kernel_rfl) (by simp) ?_
                      refine (AllReadyH.cons (o := { dst := some 52, op := Op.call { callee := Callee.builtin Builtin.append, args := #[Operand.tmp 37, Operand.tmp 51], argTypes := #[38, 38] }, type := 38, pos := "law.go:63", after := #[{ on := 4, ground := Ground.data }, { on := 18, ground := Ground.data }, { on := 15, ground := Ground.chain }], guard := none }) rfl (fun K hK => ?_) AllReadyH.nil)
                      rw [if_pos (by rfl)]
                      obtain ⟨M_, eM, bX, _⟩ := S0.out.xX xX rfl
                      cases eM
                      refine wp_append_1 (.tmp 37) (.tmp 51) rfl lo (.slice oa Kn oc) Kn rows (.slice (some ⟨xM, 0, none⟩) 4 4) rfl (S0.out.kq.own hO.out (fun g q => (hko.out g q).2)) xX rfl bX rfl hK1 (Nat.le_trans hlo S0.out.kq.size) ?_
                      intro gO cO V7 k1 k2 k3
                      have F0 := Hd.mk (S0.out.fin A0.out hO.out hkv.out hko.out hl3.out k1 k2 k3)
                      have bb : Hd (At V7 kb #[(.slice oa Kn oc)]) := Hd.mk (at_grown (S0.out.kq.at_ A0.out (fun q => hkv.out kb q rfl)) k2 (fun q => (hko.out kb q).1 rfl))
                      clear hHeld
                      refine hK.out _ _ trivial (fun hHeld => ?_)
                      clear hK k1 k2 k3 bX S0 V6
                      try simp only [Act.put, List.setIfInBounds_toArray, List.set_cons_zero, List.set_cons_succ]
                      refine wpAnyH_take (i := 20) (oi := { dst := some 53, op := Op.nilCheck (Operand.tmp 33), type := 0, pos := "law.go:63", after := #[{ on := 0, ground := Ground.data }, { on := 0, ground := Ground.phase }, { on := 1, ground := Ground.phase }, { on := 2, ground := Ground.phase }, { on := 3, ground := Ground.phase }, { on := 4, ground := Ground.phase }, { on := 5, ground := Ground.phase }, { on := 6, ground := Ground.phase }, { on := 7, ground := Ground.phase }, { on := 8, ground := Ground.phase }, { on := 9, ground := Ground.phase }, { on := 10, ground := Ground.phase }, { on := 11, ground := Ground.phase }, { on := 12, ground := Ground.phase }, { on := 13, ground := Ground.phase }, { on := 14, ground := Ground.phase }, { on := 15, ground := Ground.phase }, { on := 16, ground := Ground.phase }, { on := 17, ground := Ground.phase }, { on := 18, ground := Ground.phase }, { on := 19, ground := Ground.phase }], guard := none }) (v := ?_) rfl (by kernel_rfl) (by kernel_rfl) (by kernel_rfl) (fun _ _ _ h => h) (Or.inl ⟨by rfl, ?_⟩) (by assumption) ?_
                      rotate_left
                      · intro w hSw; (try dsimp only at hSw); go_simp; first | done | with_reducible rfl
                      try simp only [Act.put, List.setIfInBounds_toArray, List.set_cons_zero, List.set_cons_succ]
                      refine wpAnyH_take (i := 21) (oi := { dst := some 54, op := Op.fieldAddr 40 (Operand.tmp 53) 0, type := 0, pos := "law.go:63", after := #[{ on := 20, ground := Ground.data }, { on := 0, ground := Ground.phase }, { on := 1, ground := Ground.phase }, { on := 2, ground := Ground.phase }, { on := 3, ground := Ground.phase }, { on := 4, ground := Ground.phase }, { on := 5, ground := Ground.phase }, { on := 6, ground := Ground.phase }, { on := 7, ground := Ground.phase }, { on := 8, ground := Ground.phase }, { on := 9, ground := Ground.phase }, { on := 10, ground := Ground.phase }, { on := 11, ground := Ground.phase }, { on := 12, ground := Ground.phase }, { on := 13, ground := Ground.phase }, { on := 14, ground := Ground.phase }, { on := 15, ground := Ground.phase }, { on := 16, ground := Ground.phase }, { on := 17, ground := Ground.phase }, { on := 18, ground := Ground.phase }, { on := 19, ground := Ground.phase }], guard := none }) (v := ?_) rfl (by kernel_rfl) (by kernel_rfl) (by kernel_rfl) (fun _ _ _ h => h) (Or.inl ⟨by rfl, ?_⟩) (by assumption) ?_
                      rotate_left
                      · intro w hSw; (try dsimp only at hSw); go_simp; first | done | with_reducible rfl
                      try simp only [Act.put, List.setIfInBounds_toArray, List.set_cons_zero, List.set_cons_succ]
                      refine wpAnyH_ready (rs := [22]) (by kernel_rfl) (by simp) ?_
                      refine (AllReadyH.cons (o := { dst := none, op := Op.store 38 (Operand.tmp 54) (Operand.tmp 52), type := 0, pos := "law.go:63", after := #[{ on := 21, ground := Ground.data }, { on := 19, ground := Ground.data }, { on := 19, ground := Ground.chain }, { on := 0, ground := Ground.phase }, { on := 1, ground := Ground.phase }, { on := 2, ground := Ground.phase }, { on := 3, ground := Ground.phase }, { on := 4, ground := Ground.phase }, { on := 5, ground := Ground.phase }, { on := 6, ground := Ground.phase }, { on := 7, ground := Ground.phase }, { on := 8, ground := Ground.phase }, { on := 9, ground := Ground.phase }, { on := 10, ground := Ground.phase }, { on := 11, ground := Ground.phase }, { on := 12, ground := Ground.phase }, { on := 13, ground := Ground.phase }, { on := 14, ground := Ground.phase }, { on := 15, ground := Ground.phase }, { on := 16, ground := Ground.phase }, { on := 17, ground := Ground.phase }, { on := 18, ground := Ground.phase }, { on := 19, ground := Ground.phase }], guard := none }) rfl (fun K hK => ?_) AllReadyH.nil)
                      have kbc : V7.cell? ⟨kb, 0, none⟩ = some (.slice oa Kn oc) := bb.out.2.1 0
                      have kbf : V7.frozen? ⟨kb, 0, none⟩ = false := bb.out.2.2 0
                      go_simp
                      clear hHeld
                      refine hK.out _ _ trivial (fun hHeld => ?_)
                      clear hK kbc kbf
                      try simp only [Act.put]
                      refine wpAnyH_done (by kernel_rfl) ?_ _
                      go_wp2_with fail
                      simp [bodyPost, results, Try.results26, go_sem]
                      exact ⟨gO, cO, xM, g1, c1, g2, c2, _, F0.out⟩
end U
end Go.Proofs.Ythblllanofnmmaa
