/-
  Stage 1, capword: the walk of the statement that what comes of a capability is under it.
-/
import Derived.Test.YtmnmflpbpklmiaaExB
import Derived.Test.YtmnmflpbpklmiaaOpen
import Derived.Test.YtmnmflpbpklmiaaCapsL
import Derived.Test.YtmnmflpbpklmiaaCapsN
import Derived.Deep.DeepCutAuto
import Derived.Deep.RegionWith
namespace Go.Proofs.Ytmnmflpbpklmiaa
open Go.RowKit

/-- All are good; of a sealed one nothing else came. -/
def LInv (C : Kap) (L : List Kap) : Prop := (∀ k ∈ L, Good C k) ∧ (C.s ≠ 0 → L.length = 1)
theorem LInv.one {C : Kap} (h : Good C C) : LInv C [C] := ⟨by simpa using h, fun _ => rfl⟩
theorem LInv.two {C k : Kap} (h : Good C C) (hk : Good C k) (h0 : C.s = 0 := by rfl) : LInv C [C, k] := ⟨by simp [h, hk], fun h => absurd h0 h⟩
theorem LInv.snoc {C k : Kap} {L : List Kap} (h : LInv C L) (hk : Good C k) (h0 : C.s = 0 := by rfl) : LInv C (L ++ [k]) :=
  ⟨fun x hx => by rcases List.mem_append.mp hx with hx | hx; exact h.1 x hx; simp at hx; rw [hx]; exact hk, fun h => absurd h0 h⟩

set_option maxRecDepth 100000 in
set_option maxHeartbeats 4000000 in
theorem walk_CapwordLess (b e c p s n q m k : Int) (hr : InR b e c p s) (hn : 0 ≤ n ∧ n < 18446744073709551616) (hq : 0 ≤ q ∧ q < 256) (_hm : 0 ≤ m ∧ m < 18446744073709551616) (hk : 0 ≤ k ∧ k < 18446744073709551616) (w : World) :
    Calls Try.prog 8 #[.agg #[.int .u64 b, .int .u64 e, .int .u64 c, .int .u8 p, .int .i64 s], .int .u64 n, .int .u8 q, .int .u64 m, .int .u64 k] w fun x w' => x = .returned (.bool true) ∧ Below w.heap.size w w' := by
  have hr0 := hr
  obtain ⟨hcb, hce, hcc, hcp, hcs⟩ := hr0
  go_enter Try.func8, Try.ntmps8
  go_wp2_with fail
  refine (examples_any _).mono ?_
  rintro x w1 ⟨rfl, hb⟩
  have hC : At w1 w.heap.size #[.int .u64 b, .int .u64 e, .int .u64 c, .int .u8 p, .int .i64 s] := (At.new _ _ _).below hb
  have hB := bstep (below_one w _) hb
  clear hb
  have q_hC := hC.2.1
  have z_hC := hC.1
  go_wp2_with fail
  refine (built_any _ _ _ _ _ _ hr).mono ?_
  rintro x w2 ⟨b1, e1, p1, s1, rfl, hR, hb⟩
  clear q_hC z_hC
  replace hC := hC.below hb
  replace hB := bstep hB hb
  clear hb
  have q_hC := hC.2.1
  have z_hC := hC.1
  have f_hC := hC.2.2
  go_upto_region 3 with fail
  clear q_hC z_hC
  clear f_hC
  refine wp_world (fun w3 => At w3 w.heap.size #[.int .u64 b1, .int .u64 e1, .int .u64 c, .int .u8 p1, .int .i64 s1] ∧ Below w.heap.size w w3) ⟨?_, ?_⟩ ?_
  · exact ((((hC.set 0 _ (by simp)).set 1 _ (by simp)).set 2 _ (by simp)).set 3 _ (by simp)).set 4 _ (by simp)
  · exact ((((hB.setCell (by simp) _).setCell (by simp) _).setCell (by simp) _).setCell (by simp) _).setCell (by simp) _
  clear hC hB
  rintro w3 ⟨hC, hB⟩
  have hN : w.heap.size + 1 ≤ w3.heap.size := hC.1
  have hG : Good ⟨b1, e1, c, p1, s1⟩ ⟨b1, e1, c, p1, s1⟩ := Good.self ⟨hR.1, hR.2.1⟩ hcc
  obtain ⟨hR1, ⟨hR2, hR3⟩, ⟨hR4, hR5⟩⟩ := hR
  clear hr hcb hce hcp hcs
  have q_hC := hC.2.1
  have z_hC := hC.1
  go_wp2_with fail
  refine (inc_any _ _ _ _ _ _ _).mono ?_
  rintro x w4 ⟨b2, e2, c2, p2, s2, f2, rfl, hI, hb⟩
  clear q_hC z_hC
  replace hC := (hC.alloc _).below hb
  have hL : LAt w4 (w.heap.size + 1) w3.heap.size 1 [⟨b1, e1, c, p1, s1⟩] := (LAt.one w3 _ ⟨b1, e1, c, p1, s1⟩ hN).below hb
  replace hB := bstep (hB.alloc hB.size _) hb
  have h34 : w3.heap.size < w4.heap.size := by have := hb.size; simp at this; omega
  clear hb
  by_cases hs0 : s1 = 0
  · subst hs0
    obtain ⟨rfl, rfl, rfl, rfl, rfl, rfl⟩ : b1 = b2 ∧ e1 = e2 ∧ IntKind.u64.wrap (c + m) = c2 ∧ p1 = p2 ∧ 0 = s2 ∧ 0 = f2 := by unfold IncR at hI; omega
    have hI2 := hG.inc hI
    clear hI
    have q_hC := hC.2.1
    have z_hC := hC.1
    have hX := At.new w4 #[.int .u64 b1, .int .u64 e1, .int .u64 (IntKind.u64.wrap (c + m)), .int .u8 p1, .int .i64 0] 25
    go_wp2_with (at_builtin; refine wpList_append_kap rfl (.tmp 39) (.tmp 41) rfl (w.heap.size + 1) w3.heap.size 1 [⟨b1, e1, c, p1, 0⟩] ⟨b1, e1, IntKind.u64.wrap (c + m), p1, 0⟩ 1 rfl rfl ((hL.alloc _).alloc _) (w4.heap.size + 1) rfl (by exact (size_one w4 _ ▸ At.new (w4.alloc _) _ _ : At _ (w4.heap.size + 1) _)) (by omega) (by simp; omega) ?_)
    intro g cp w5 hL5 hgr hgg
    have hgx : g ≠ w4.heap.size := by
      rcases hgg with h | h
      · omega
      · omega
    replace hC := ((hC.alloc _).alloc _).grown hgr (by simp; omega)
    replace hX := (hX.alloc _).grown hgr (by simp; omega)
    replace hB := Below.grown ((hB.alloc hB.size _).alloc (by have := hB.size; simp; omega) _) hgr (by have := hB.size; simp; omega) (by intro k hk; simp at hk; omega)
    clear hgr hgg hL q_hC z_hC
    have hL := hL5
    clear hL5
    go_wp2_with fail
    go_loopw [12, 15] (fun v i wr => ∃ (L : List Kap) (g cp j : Nat), v = .slice (some ⟨g, 0, none⟩) L.length cp ∧ i = .int .i64 j ∧ j ≤ L.length ∧ 1 ≤ L.length ∧ L.length ≤ 3 ∧ LInv ⟨b1, e1, c, p1, 0⟩ L ∧ LAt wr (w.heap.size + 1) g cp L ∧ g ≠ w4.heap.size ∧ At wr w.heap.size #[.int .u64 b1, .int .u64 e1, .int .u64 c, .int .u8 p1, .int .i64 0] ∧ At wr w4.heap.size #[.int .u64 b1, .int .u64 e1, .int .u64 (IntKind.u64.wrap (c + m)), .int .u8 p1, .int .i64 0] ∧ Below w.heap.size w wr) (fun _ i _ => 3 - (intOf i).toNat)
    case atStart => exact ⟨[⟨b1, e1, c, p1, 0⟩, ⟨b1, e1, IntKind.u64.wrap (c + m), p1, 0⟩], g, cp, 0, rfl, rfl, by simp, by simp, by simp, LInv.two hG hI2, hL, hgx, hC, hX, hB⟩
    case round =>
      clear hL hC hB hX hgx
      obtain ⟨L, g, cp, j, rfl, rfl, hj, hl1, hl3, hv, hL, hgx, hC, hX, hB⟩ := hrel
      have hgN := hL.lt
      by_cases hgo : j < L.length
      · by_cases hl2 : L.length < 3
        · obtain ⟨kk, hkk⟩ : ∃ kk, L[j] = kk := ⟨_, rfl⟩
          have hmem : kk ∈ L := hkk ▸ List.getElem_mem hgo
          have hgk := hv.1 kk hmem
          obtain ⟨y0, y1, y2, y3, y4⟩ := hL.five j hgo hkk
          clear hkk
          go_wp2_with fail
          refine (setBounds_any _ _ _ _ _ _ _).mono ?_
          rintro x w6 ⟨b3, e3, c3, p3, s3, f3, rfl, hS, hb⟩
          clear y0 y1 y2 y3 y4
          replace hL := hL.below hb
          replace hC := hC.below hb
          replace hX := hX.below hb
          replace hB := bstep hB hb
          have hs6 : wr.heap.size ≤ w6.heap.size := hb.size
          have hBs := hB.size
          clear hb
          by_cases hf : f3 = 0
          · subst hf
            have hg3 := Good.set hn.1 hgk hS
            clear hS
            go_wp2_with (at_builtin; refine wpList_append_kap rfl (.tmp 65) (.tmp 67) rfl (w.heap.size + 1) g cp L ⟨b3, e3, c3, p3, s3⟩ L.length rfl rfl ((hL.alloc _).alloc _) (w6.heap.size + 1) rfl (by exact (size_one w6 _ ▸ At.new (w6.alloc _) _ _ : At _ (w6.heap.size + 1) _)) (by omega) (by simp; omega) ?_)
            intro g2 cp2 w7 hL7 hgr hgg
            have hgx2 : g2 ≠ w4.heap.size := by
              have := hX.1
              rcases hgg with h | h
              · omega
              · omega
            replace hC := ((hC.alloc _).alloc _).grown hgr (by simp; omega)
            replace hX := ((hX.alloc _).alloc _).grown hgr (by simp; omega)
            replace hB := Below.grown ((hB.alloc hB.size _).alloc (by simp; omega) _) hgr (by simp; omega) (by intro k hk; simp at hk; omega)
            clear hgr hgg hL
            go_wp2
            go_roundw
            case rel => exact ⟨L ++ [⟨b3, e3, c3, p3, s3⟩], g2, cp2, j + 1, by simp, by go_num, by simp; omega, by simp, by simp; omega, hv.snoc hg3, hL7, hgx2, hC, hX, hB⟩
            case measure => simp [intOf]; omega
          · have hf' : (f3 == 0) = false := by simpa using hf
            go_wp2
            go_roundw
            case rel => exact ⟨L, g, cp, j + 1, rfl, by go_num, by omega, hl1, hl3, hv, hL.alloc _, hgx, hC.alloc _, hX.alloc _, hB.alloc hB.size _⟩
            case measure => simp [intOf]; omega
        · obtain ⟨n1, hn1⟩ : ∃ n1, L.length = n1 + 1 := ⟨L.length - 1, by omega⟩
          have hgo2 : j < n1 + 1 := by omega
          have hl22 : ¬ n1 + 1 < 3 := by omega
          clear hgo hl2
          obtain ⟨kl, hkl⟩ : ∃ kl, L[n1]'(by omega) = kl := ⟨_, rfl⟩
          have hgl := hv.1 kl (hkl ▸ List.getElem_mem (by omega))
          have hls : kl.s = 0 := hgl.2.2.2.1
          have hgl2 : Good ⟨b1, e1, c, p1, 0⟩ ⟨kl.b, kl.e, kl.c, kl.p, 0⟩ := ⟨hgl.1, hgl.2.1, hgl.2.2.1, rfl, hgl.2.2.2.2⟩
          obtain ⟨y0, y1, y2, y3, y4⟩ := hL.five n1 (by omega) hkl
          clear hkl hgl
          have HN : Hid (L.length = n1 + 1) := hn1
          go_wp2_with fail
          refine (andPerm_any _ _ _ _ _ _ _).mono ?_
          rintro x w8 ⟨b4, e4, c4, p4, s4, f4, rfl, hS, hb⟩
          clear y0 y1 y2 y3 y4 hn1 hls hgo2
          replace hL := (hL.alloc _).below hb
          replace hC := (hC.alloc _).below hb
          replace hX := (hX.alloc _).below hb
          replace hB := bstep (hB.alloc hB.size _) hb
          have hs8 : wr.heap.size + 1 ≤ w8.heap.size := by have := hb.size; simpa using this
          clear hb
          obtain rfl : 0 = f4 := by unfold AndP at hS; omega
          have hg4 := Good.and hq ⟨hR2, Int.lt_trans hR3 (by omega)⟩ hgl2 hS
          clear hS hgl2
          have hBs := hB.size
          go_wp2_with (at_builtin; refine wpList_append_kap rfl (.tmp 83) (.tmp 85) rfl (w.heap.size + 1) g cp L ⟨b4, e4, c4, p4, s4⟩ (n1 + 1) HN.out rfl ((hL.alloc _).alloc _) (w8.heap.size + 1) rfl (by exact (size_one w8 _ ▸ At.new (w8.alloc _) _ _ : At _ (w8.heap.size + 1) _)) (by have := HN.out; omega) (by simp; omega) ?_)
          intro g2 cp2 w9 hL9 hgr hgg
          have hgx2 : g2 ≠ w4.heap.size := by
            have := hX.1
            rcases hgg with h | h
            · omega
            · omega
          replace hC := ((hC.alloc _).alloc _).grown hgr (by simp; omega)
          replace hX := ((hX.alloc _).alloc _).grown hgr (by simp; omega)
          replace hB := Below.grown ((hB.alloc hB.size _).alloc (by simp; omega) _) hgr (by simp; omega) (by intro k hk; simp at hk; omega)
          replace hv := hv.snoc hg4
          have hlen : (L ++ [Kap.mk b4 e4 c4 p4 s4]).length = n1 + 1 + 1 := by have := HN.out; simp; omega
          have HZ : (L ++ [Kap.mk b4 e4 c4 p4 s4])[n1 + 1]'(by omega) = ⟨b4, e4, c4, p4, s4⟩ := by
            have := HN.out
            rw [List.getElem_append_right (by omega)]; simp
          have hn3 : n1 + 1 ≤ 3 := by have := HN.out; omega
          clear hgr hgg hL HN hs8 hBs hgx hgN hj hl1 hl3
          obtain ⟨M, hM1, hM2, hM3, hM5, hM4⟩ : ∃ M : List Kap, LAt w9 (w.heap.size + 1) g2 cp2 M ∧ LInv ⟨b1, e1, c, p1, 0⟩ M ∧ M.length = n1 + 1 + 1 ∧ ∃ h : n1 + 1 < M.length, M[n1 + 1] = ⟨b4, e4, c4, p4, s4⟩ := ⟨_, hL9, hv, hlen, by omega, HZ⟩
          clear HZ hlen hv hL9
          have hL9 := hM1
          have hv := hM2
          have hlen := hM3
          have hgM := hL9.lt
          obtain ⟨y0, y1, y2, y3, y4⟩ := hL9.five (n1 + 1) hM5 hM4
          clear hM1 hM2 hM3 hM4 hM5
          have HL : Hid (M.length = n1 + 1 + 1) := hlen
          clear hlen
          go_wp2_with fail
          refine (setBounds_any _ _ _ _ _ _ _).mono ?_
          rintro x w10 ⟨b5, e5, c5, p5, s5, f5, rfl, hS, hb⟩
          clear y0 y1 y2 y3 y4
          replace hL9 := hL9.below hb
          replace hC := hC.below hb
          replace hX := hX.below hb
          replace hB := bstep hB hb
          have hBs := hB.size
          have hs10 : w9.heap.size ≤ w10.heap.size := hb.size
          clear hb
          by_cases hf : f5 = 0
          · subst hf
            have hg5 := Good.set hk.1 hg4 hS
            clear hS hg4
            go_wp2_with (at_builtin; refine wpList_append_kap rfl (.tmp 100) (.tmp 102) rfl (w.heap.size + 1) g2 cp2 M ⟨b5, e5, c5, p5, s5⟩ (n1 + 1 + 1) HL.out rfl ((hL9.alloc _).alloc _) (w10.heap.size + 1) rfl (by exact (size_one w10 _ ▸ At.new (w10.alloc _) _ _ : At _ (w10.heap.size + 1) _)) (by omega) (by simp; omega) ?_)
            intro g3 cp3 w11 hL hgr hgg
            replace hC := ((hC.alloc _).alloc _).grown hgr (by simp; omega)
            replace hX := ((hX.alloc _).alloc _).grown hgr (by simp; omega)
            replace hB := Below.grown ((hB.alloc hB.size _).alloc (by simp; omega) _) hgr (by simp; omega) (by intro k hk; simp at hk; omega)
            replace hv := hv.snoc hg5
            have hlen : (M ++ [Kap.mk b5 e5 c5 p5 s5]).length = n1 + 1 + 1 + 1 := by have := HL.out; simp; omega
            clear hgr hgg hL9 hgx2 hg5 HL hs10 hBs hgM
            obtain ⟨M2, hM1, hM2, hM3⟩ : ∃ M2 : List Kap, LAt w11 (w.heap.size + 1) g3 cp3 M2 ∧ LInv ⟨b1, e1, c, p1, 0⟩ M2 ∧ M2.length = n1 + 1 + 1 + 1 := ⟨_, hL, hv, hlen⟩
            clear hL hv hlen
            have hL := hM1
            have hv := hM2
            have HL2 : Hid (M2.length = n1 + 1 + 1 + 1) := hM3
            clear hM1 hM2 hM3
            go_wp2_with fail
            go_loopw [23] (fun i wr => ∃ j : Nat, i = .int .i64 j ∧ j ≤ n1 + 1 + 1 + 1 ∧ LAt wr (w.heap.size + 1) g3 cp3 M2 ∧ At wr w.heap.size #[.int .u64 b1, .int .u64 e1, .int .u64 c, .int .u8 p1, .int .i64 0] ∧ At wr w4.heap.size #[.int .u64 b1, .int .u64 e1, .int .u64 (IntKind.u64.wrap (c + m)), .int .u8 p1, .int .i64 0] ∧ Below w.heap.size w wr) (fun i _ => n1 + 1 + 1 + 1 - (intOf i).toNat)
            case atStart => exact ⟨0, rfl, by omega, hL, hC, hX, hB⟩
            case round =>
              clear hL hC hB hX
              obtain ⟨j, rfl, hj, hL, hC, hX, hB⟩ := hrel
              have hgN := hL.lt
              have zg := hgN.2
              have q_hC := hC.2.1
              have z_hC := hC.1
              by_cases hgo : j < n1 + 1 + 1 + 1
              · have hgo' : j < (M2 : List Kap).length := by rw [HL2.out]; exact hgo
                obtain ⟨kk, hkk⟩ : ∃ kk, (M2 : List Kap)[j] = kk := ⟨_, rfl⟩
                have hgk := hv.1 kk (hkk ▸ List.getElem_mem hgo')
                obtain ⟨y0, y1, y2, y3, y4⟩ := hL.five j hgo' hkk
                clear hkk hgo'
                have hu : underB kk.b kk.e kk.p kk.s b1 e1 p1 0 = true := hgk.under
                have ht : rightB kk.b kk.e kk.p kk.s = true := hgk.right ⟨hR4, hR5⟩
                go_wp2_with fail
                go_region_with (go_at_call 10; refine (under_any _ _ _ _ _ _ _ _ _ _ _).mono ?_; rintro x w' ⟨rfl, rfl⟩)
                all_goals
                  go_wp2_with fail
                  refine (right_any _ _ _ _ _ _).mono ?_
                  rintro x w' ⟨rfl, rfl⟩
                  go_wp2
                  go_roundw
                  case rel => exact ⟨j + 1, by go_num, by omega, (hL.below (below_three _ _ _ _)).drew, (hC.below (below_three _ _ _ _)).drew, (hX.below (below_three _ _ _ _)).drew, (bstep hB (below_three _ _ _ _)).drew⟩
                  case measure => simp [intOf]; omega
              · have q_hX := hX.2.1
                have z_hX := hX.1
                go_wp2
                go_ret
                exact ⟨ret_bool (by simp), hB⟩
          · have hf' : (f5 == 0) = false := by simpa using hf
            have hlen := HL.out
            have HL2 : Hid (M.length = n1 + 1 + 1) := hlen
            clear hlen hgx2 hs10 hBs hgM HL
            have hL := hL9.alloc (.cells #[.int .u64 b5, .int .u64 e5, .int .u64 c5, .int .u8 p5, .int .i64 s5] 25)
            replace hC := hC.alloc (.cells #[.int .u64 b5, .int .u64 e5, .int .u64 c5, .int .u8 p5, .int .i64 s5] 25)
            replace hX := hX.alloc (.cells #[.int .u64 b5, .int .u64 e5, .int .u64 c5, .int .u8 p5, .int .i64 s5] 25)
            replace hB := hB.alloc hB.size (.cells #[.int .u64 b5, .int .u64 e5, .int .u64 c5, .int .u8 p5, .int .i64 s5] 25)
            go_wp2_with fail
            go_loopw [23] (fun i wr => ∃ j : Nat, i = .int .i64 j ∧ j ≤ n1 + 1 + 1 ∧ LAt wr (w.heap.size + 1) g2 cp2 M ∧ At wr w.heap.size #[.int .u64 b1, .int .u64 e1, .int .u64 c, .int .u8 p1, .int .i64 0] ∧ At wr w4.heap.size #[.int .u64 b1, .int .u64 e1, .int .u64 (IntKind.u64.wrap (c + m)), .int .u8 p1, .int .i64 0] ∧ Below w.heap.size w wr) (fun i _ => n1 + 1 + 1 - (intOf i).toNat)
            case atStart => exact ⟨0, rfl, by omega, hL, hC, hX, hB⟩
            case round =>
              clear hL hC hB hX
              obtain ⟨j, rfl, hj, hL, hC, hX, hB⟩ := hrel
              have hgN := hL.lt
              have zg := hgN.2
              have q_hC := hC.2.1
              have z_hC := hC.1
              by_cases hgo : j < n1 + 1 + 1
              · have hgo' : j < (M : List Kap).length := by rw [HL2.out]; exact hgo
                obtain ⟨kk, hkk⟩ : ∃ kk, (M : List Kap)[j] = kk := ⟨_, rfl⟩
                have hgk := hv.1 kk (hkk ▸ List.getElem_mem hgo')
                obtain ⟨y0, y1, y2, y3, y4⟩ := hL.five j hgo' hkk
                clear hkk hgo'
                have hu : underB kk.b kk.e kk.p kk.s b1 e1 p1 0 = true := hgk.under
                have ht : rightB kk.b kk.e kk.p kk.s = true := hgk.right ⟨hR4, hR5⟩
                go_wp2_with fail
                go_region_with (go_at_call 10; refine (under_any _ _ _ _ _ _ _ _ _ _ _).mono ?_; rintro x w' ⟨rfl, rfl⟩)
                all_goals
                  go_wp2_with fail
                  refine (right_any _ _ _ _ _ _).mono ?_
                  rintro x w' ⟨rfl, rfl⟩
                  go_wp2
                  go_roundw
                  case rel => exact ⟨j + 1, by go_num, by omega, (hL.below (below_three _ _ _ _)).drew, (hC.below (below_three _ _ _ _)).drew, (hX.below (below_three _ _ _ _)).drew, (bstep hB (below_three _ _ _ _)).drew⟩
                  case measure => simp [intOf]; omega
              · have q_hX := hX.2.1
                have z_hX := hX.1
                go_wp2
                go_ret
                exact ⟨ret_bool (by simp), hB⟩
      · obtain ⟨n1, hn1⟩ : ∃ n1, L.length = n1 + 1 := ⟨L.length - 1, by omega⟩
        have hgo2 : ¬ j < n1 + 1 := by omega
        clear hgo
        obtain ⟨kl, hkl⟩ : ∃ kl, L[n1]'(by omega) = kl := ⟨_, rfl⟩
        have hgl := hv.1 kl (hkl ▸ List.getElem_mem (by omega))
        have hls : kl.s = 0 := hgl.2.2.2.1
        have hgl2 : Good ⟨b1, e1, c, p1, 0⟩ ⟨kl.b, kl.e, kl.c, kl.p, 0⟩ := ⟨hgl.1, hgl.2.1, hgl.2.2.1, rfl, hgl.2.2.2.2⟩
        obtain ⟨y0, y1, y2, y3, y4⟩ := hL.five n1 (by omega) hkl
        clear hkl hgl
        have HN : Hid (L.length = n1 + 1) := hn1
        go_wp2_with fail
        refine (andPerm_any _ _ _ _ _ _ _).mono ?_
        rintro x w8 ⟨b4, e4, c4, p4, s4, f4, rfl, hS, hb⟩
        clear y0 y1 y2 y3 y4 hn1 hls hgo2
        replace hL := (hL.alloc _).below hb
        replace hC := (hC.alloc _).below hb
        replace hX := (hX.alloc _).below hb
        replace hB := bstep (hB.alloc hB.size _) hb
        have hs8 : wr.heap.size + 1 ≤ w8.heap.size := by have := hb.size; simpa using this
        clear hb
        obtain rfl : 0 = f4 := by unfold AndP at hS; omega
        have hg4 := Good.and hq ⟨hR2, Int.lt_trans hR3 (by omega)⟩ hgl2 hS
        clear hS hgl2
        have hBs := hB.size
        go_wp2_with (at_builtin; refine wpList_append_kap rfl (.tmp 83) (.tmp 85) rfl (w.heap.size + 1) g cp L ⟨b4, e4, c4, p4, s4⟩ (n1 + 1) HN.out rfl ((hL.alloc _).alloc _) (w8.heap.size + 1) rfl (by exact (size_one w8 _ ▸ At.new (w8.alloc _) _ _ : At _ (w8.heap.size + 1) _)) (by have := HN.out; omega) (by simp; omega) ?_)
        intro g2 cp2 w9 hL9 hgr hgg
        have hgx2 : g2 ≠ w4.heap.size := by
          have := hX.1
          rcases hgg with h | h
          · omega
          · omega
        replace hC := ((hC.alloc _).alloc _).grown hgr (by simp; omega)
        replace hX := ((hX.alloc _).alloc _).grown hgr (by simp; omega)
        replace hB := Below.grown ((hB.alloc hB.size _).alloc (by simp; omega) _) hgr (by simp; omega) (by intro k hk; simp at hk; omega)
        replace hv := hv.snoc hg4
        have hlen : (L ++ [Kap.mk b4 e4 c4 p4 s4]).length = n1 + 1 + 1 := by have := HN.out; simp; omega
        have HZ : (L ++ [Kap.mk b4 e4 c4 p4 s4])[n1 + 1]'(by omega) = ⟨b4, e4, c4, p4, s4⟩ := by
          have := HN.out
          rw [List.getElem_append_right (by omega)]; simp
        have hn3 : n1 + 1 ≤ 3 := by have := HN.out; omega
        clear hgr hgg hL HN hs8 hBs hgx hgN hj hl1 hl3
        obtain ⟨M, hM1, hM2, hM3, hM5, hM4⟩ : ∃ M : List Kap, LAt w9 (w.heap.size + 1) g2 cp2 M ∧ LInv ⟨b1, e1, c, p1, 0⟩ M ∧ M.length = n1 + 1 + 1 ∧ ∃ h : n1 + 1 < M.length, M[n1 + 1] = ⟨b4, e4, c4, p4, s4⟩ := ⟨_, hL9, hv, hlen, by omega, HZ⟩
        clear HZ hlen hv hL9
        have hL9 := hM1
        have hv := hM2
        have hlen := hM3
        have hgM := hL9.lt
        obtain ⟨y0, y1, y2, y3, y4⟩ := hL9.five (n1 + 1) hM5 hM4
        clear hM1 hM2 hM3 hM4 hM5
        have HL : Hid (M.length = n1 + 1 + 1) := hlen
        clear hlen
        go_wp2_with fail
        refine (setBounds_any _ _ _ _ _ _ _).mono ?_
        rintro x w10 ⟨b5, e5, c5, p5, s5, f5, rfl, hS, hb⟩
        clear y0 y1 y2 y3 y4
        replace hL9 := hL9.below hb
        replace hC := hC.below hb
        replace hX := hX.below hb
        replace hB := bstep hB hb
        have hBs := hB.size
        have hs10 : w9.heap.size ≤ w10.heap.size := hb.size
        clear hb
        by_cases hf : f5 = 0
        · subst hf
          have hg5 := Good.set hk.1 hg4 hS
          clear hS hg4
          go_wp2_with (at_builtin; refine wpList_append_kap rfl (.tmp 100) (.tmp 102) rfl (w.heap.size + 1) g2 cp2 M ⟨b5, e5, c5, p5, s5⟩ (n1 + 1 + 1) HL.out rfl ((hL9.alloc _).alloc _) (w10.heap.size + 1) rfl (by exact (size_one w10 _ ▸ At.new (w10.alloc _) _ _ : At _ (w10.heap.size + 1) _)) (by omega) (by simp; omega) ?_)
          intro g3 cp3 w11 hL hgr hgg
          replace hC := ((hC.alloc _).alloc _).grown hgr (by simp; omega)
          replace hX := ((hX.alloc _).alloc _).grown hgr (by simp; omega)
          replace hB := Below.grown ((hB.alloc hB.size _).alloc (by simp; omega) _) hgr (by simp; omega) (by intro k hk; simp at hk; omega)
          replace hv := hv.snoc hg5
          have hlen : (M ++ [Kap.mk b5 e5 c5 p5 s5]).length = n1 + 1 + 1 + 1 := by have := HL.out; simp; omega
          clear hgr hgg hL9 hgx2 hg5 HL hs10 hBs hgM
          obtain ⟨M2, hM1, hM2, hM3⟩ : ∃ M2 : List Kap, LAt w11 (w.heap.size + 1) g3 cp3 M2 ∧ LInv ⟨b1, e1, c, p1, 0⟩ M2 ∧ M2.length = n1 + 1 + 1 + 1 := ⟨_, hL, hv, hlen⟩
          clear hL hv hlen
          have hL := hM1
          have hv := hM2
          have HL2 : Hid (M2.length = n1 + 1 + 1 + 1) := hM3
          clear hM1 hM2 hM3
          go_wp2_with fail
          go_loopw [23] (fun i wr => ∃ j : Nat, i = .int .i64 j ∧ j ≤ n1 + 1 + 1 + 1 ∧ LAt wr (w.heap.size + 1) g3 cp3 M2 ∧ At wr w.heap.size #[.int .u64 b1, .int .u64 e1, .int .u64 c, .int .u8 p1, .int .i64 0] ∧ At wr w4.heap.size #[.int .u64 b1, .int .u64 e1, .int .u64 (IntKind.u64.wrap (c + m)), .int .u8 p1, .int .i64 0] ∧ Below w.heap.size w wr) (fun i _ => n1 + 1 + 1 + 1 - (intOf i).toNat)
          case atStart => exact ⟨0, rfl, by omega, hL, hC, hX, hB⟩
          case round =>
            clear hL hC hB hX
            obtain ⟨j, rfl, hj, hL, hC, hX, hB⟩ := hrel
            have hgN := hL.lt
            have zg := hgN.2
            have q_hC := hC.2.1
            have z_hC := hC.1
            by_cases hgo : j < n1 + 1 + 1 + 1
            · have hgo' : j < (M2 : List Kap).length := by rw [HL2.out]; exact hgo
              obtain ⟨kk, hkk⟩ : ∃ kk, (M2 : List Kap)[j] = kk := ⟨_, rfl⟩
              have hgk := hv.1 kk (hkk ▸ List.getElem_mem hgo')
              obtain ⟨y0, y1, y2, y3, y4⟩ := hL.five j hgo' hkk
              clear hkk hgo'
              have hu : underB kk.b kk.e kk.p kk.s b1 e1 p1 0 = true := hgk.under
              have ht : rightB kk.b kk.e kk.p kk.s = true := hgk.right ⟨hR4, hR5⟩
              go_wp2_with fail
              go_region_with (go_at_call 10; refine (under_any _ _ _ _ _ _ _ _ _ _ _).mono ?_; rintro x w' ⟨rfl, rfl⟩)
              all_goals
                go_wp2_with fail
                refine (right_any _ _ _ _ _ _).mono ?_
                rintro x w' ⟨rfl, rfl⟩
                go_wp2
                go_roundw
                case rel => exact ⟨j + 1, by go_num, by omega, (hL.below (below_three _ _ _ _)).drew, (hC.below (below_three _ _ _ _)).drew, (hX.below (below_three _ _ _ _)).drew, (bstep hB (below_three _ _ _ _)).drew⟩
                case measure => simp [intOf]; omega
            · have q_hX := hX.2.1
              have z_hX := hX.1
              go_wp2
              go_ret
              exact ⟨ret_bool (by simp), hB⟩
        · have hf' : (f5 == 0) = false := by simpa using hf
          have hlen := HL.out
          have HL2 : Hid (M.length = n1 + 1 + 1) := hlen
          clear hlen hgx2 hs10 hBs hgM HL
          have hL := hL9.alloc (.cells #[.int .u64 b5, .int .u64 e5, .int .u64 c5, .int .u8 p5, .int .i64 s5] 25)
          replace hC := hC.alloc (.cells #[.int .u64 b5, .int .u64 e5, .int .u64 c5, .int .u8 p5, .int .i64 s5] 25)
          replace hX := hX.alloc (.cells #[.int .u64 b5, .int .u64 e5, .int .u64 c5, .int .u8 p5, .int .i64 s5] 25)
          replace hB := hB.alloc hB.size (.cells #[.int .u64 b5, .int .u64 e5, .int .u64 c5, .int .u8 p5, .int .i64 s5] 25)
          go_wp2_with fail
          go_loopw [23] (fun i wr => ∃ j : Nat, i = .int .i64 j ∧ j ≤ n1 + 1 + 1 ∧ LAt wr (w.heap.size + 1) g2 cp2 M ∧ At wr w.heap.size #[.int .u64 b1, .int .u64 e1, .int .u64 c, .int .u8 p1, .int .i64 0] ∧ At wr w4.heap.size #[.int .u64 b1, .int .u64 e1, .int .u64 (IntKind.u64.wrap (c + m)), .int .u8 p1, .int .i64 0] ∧ Below w.heap.size w wr) (fun i _ => n1 + 1 + 1 - (intOf i).toNat)
          case atStart => exact ⟨0, rfl, by omega, hL, hC, hX, hB⟩
          case round =>
            clear hL hC hB hX
            obtain ⟨j, rfl, hj, hL, hC, hX, hB⟩ := hrel
            have hgN := hL.lt
            have zg := hgN.2
            have q_hC := hC.2.1
            have z_hC := hC.1
            by_cases hgo : j < n1 + 1 + 1
            · have hgo' : j < (M : List Kap).length := by rw [HL2.out]; exact hgo
              obtain ⟨kk, hkk⟩ : ∃ kk, (M : List Kap)[j] = kk := ⟨_, rfl⟩
              have hgk := hv.1 kk (hkk ▸ List.getElem_mem hgo')
              obtain ⟨y0, y1, y2, y3, y4⟩ := hL.five j hgo' hkk
              clear hkk hgo'
              have hu : underB kk.b kk.e kk.p kk.s b1 e1 p1 0 = true := hgk.under
              have ht : rightB kk.b kk.e kk.p kk.s = true := hgk.right ⟨hR4, hR5⟩
              go_wp2_with fail
              go_region_with (go_at_call 10; refine (under_any _ _ _ _ _ _ _ _ _ _ _).mono ?_; rintro x w' ⟨rfl, rfl⟩)
              all_goals
                go_wp2_with fail
                refine (right_any _ _ _ _ _ _).mono ?_
                rintro x w' ⟨rfl, rfl⟩
                go_wp2
                go_roundw
                case rel => exact ⟨j + 1, by go_num, by omega, (hL.below (below_three _ _ _ _)).drew, (hC.below (below_three _ _ _ _)).drew, (hX.below (below_three _ _ _ _)).drew, (bstep hB (below_three _ _ _ _)).drew⟩
                case measure => simp [intOf]; omega
            · have q_hX := hX.2.1
              have z_hX := hX.1
              go_wp2
              go_ret
              exact ⟨ret_bool (by simp), hB⟩
  · have hs0' : (s1 == 0) = false := by simpa using hs0
    obtain ⟨rfl, rfl, rfl, rfl, rfl, rfl⟩ : 0 = b2 ∧ 0 = e2 ∧ 0 = c2 ∧ 0 = p2 ∧ 0 = s2 ∧ 3 = f2 := by unfold IncR at hI; omega
    clear hI
    have hX := At.new w4 #[.int .u64 0, .int .u64 0, .int .u64 0, .int .u8 0, .int .i64 0] 25
    replace hC := hC.alloc (.cells #[.int .u64 0, .int .u64 0, .int .u64 0, .int .u8 0, .int .i64 0] 25)
    replace hL := hL.alloc (.cells #[.int .u64 0, .int .u64 0, .int .u64 0, .int .u8 0, .int .i64 0] 25)
    replace hB := hB.alloc hB.size (.cells #[.int .u64 0, .int .u64 0, .int .u64 0, .int .u8 0, .int .i64 0] 25)
    have hgx : w3.heap.size ≠ w4.heap.size := by omega
    go_wp2_with fail
    go_loopw [12, 15] (fun v i wr => ∃ (L : List Kap) (g cp j : Nat), v = .slice (some ⟨g, 0, none⟩) L.length cp ∧ i = .int .i64 j ∧ j ≤ L.length ∧ 1 ≤ L.length ∧ L.length ≤ 3 ∧ LInv ⟨b1, e1, c, p1, s1⟩ L ∧ LAt wr (w.heap.size + 1) g cp L ∧ g ≠ w4.heap.size ∧ At wr w.heap.size #[.int .u64 b1, .int .u64 e1, .int .u64 c, .int .u8 p1, .int .i64 s1] ∧ At wr w4.heap.size #[.int .u64 0, .int .u64 0, .int .u64 0, .int .u8 0, .int .i64 0] ∧ Below w.heap.size w wr) (fun _ i _ => 3 - (intOf i).toNat)
    case atStart => exact ⟨[⟨b1, e1, c, p1, s1⟩], w3.heap.size, 1, 0, rfl, rfl, by simp, by simp, by simp, LInv.one hG, hL, hgx, hC, hX, hB⟩
    case round =>
      clear hL hC hB hX hgx
      obtain ⟨L, g, cp, j, rfl, rfl, hj, hl1, hl3, hv, hL, hgx, hC, hX, hB⟩ := hrel
      have hgN := hL.lt
      by_cases hgo : j < L.length
      · by_cases hl2 : L.length < 3
        · obtain ⟨kk, hkk⟩ : ∃ kk, L[j] = kk := ⟨_, rfl⟩
          have hmem : kk ∈ L := hkk ▸ List.getElem_mem hgo
          have hgk := hv.1 kk hmem
          obtain ⟨y0, y1, y2, y3, y4⟩ := hL.five j hgo hkk
          clear hkk
          go_wp2_with fail
          refine (setBounds_any _ _ _ _ _ _ _).mono ?_
          rintro x w6 ⟨b3, e3, c3, p3, s3, f3, rfl, hS, hb⟩
          clear y0 y1 y2 y3 y4
          replace hL := hL.below hb
          replace hC := hC.below hb
          replace hX := hX.below hb
          replace hB := bstep hB hb
          have hs6 : wr.heap.size ≤ w6.heap.size := hb.size
          have hBs := hB.size
          clear hb
          by_cases hf : f3 = 0
          · exfalso
            have := hgk.2.2.2.1
            simp only at this
            subst hf
            unfold SetB at hS; omega
          · have hf' : (f3 == 0) = false := by simpa using hf
            go_wp2
            go_roundw
            case rel => exact ⟨L, g, cp, j + 1, rfl, by go_num, by omega, hl1, hl3, hv, hL.alloc _, hgx, hC.alloc _, hX.alloc _, hB.alloc hB.size _⟩
            case measure => simp [intOf]; omega
        · exfalso
          have := hv.2 hs0
          omega
      · obtain ⟨n1, hn1⟩ : ∃ n1, L.length = n1 + 1 := ⟨L.length - 1, by omega⟩
        have hgo2 : ¬ j < n1 + 1 := by omega
        clear hgo
        obtain rfl : n1 = 0 := by have := hv.2 hs0; omega
        obtain ⟨kl, hkl⟩ : ∃ kl, L[0]'(by omega) = kl := ⟨_, rfl⟩
        have hgl := hv.1 kl (hkl ▸ List.getElem_mem (by omega))
        have hls : kl.s = s1 := hgl.2.2.2.1
        obtain ⟨y0, y1, y2, y3, y4⟩ := hL.five 0 (by omega) hkl
        simp only [Nat.zero_mul, Nat.zero_add] at y0 y1 y2 y3 y4
        have HN : Hid (L.length = 0 + 1) := hn1
        have HK : Hid (L[0]'(by omega) = kl) := hkl
        clear hgl hkl
        go_wp2_with fail
        refine (andPerm_any _ _ _ _ _ _ _).mono ?_
        rintro x w8 ⟨b4, e4, c4, p4, s4, f4, rfl, hS, hb⟩
        clear y0 y1 y2 y3 y4
        replace hL := (hL.alloc _).below hb
        replace hC := (hC.alloc _).below hb
        replace hX := (hX.alloc _).below hb
        replace hB := bstep (hB.alloc hB.size _) hb
        clear hb
        obtain ⟨rfl, rfl, rfl, rfl, rfl, rfl⟩ : 0 = b4 ∧ 0 = e4 ∧ 0 = c4 ∧ 0 = p4 ∧ 0 = s4 ∧ 3 = f4 := by unfold AndP at hS; omega
        clear hS
        obtain ⟨y0, y1, y2, y3, y4⟩ := hL.five 0 (by omega) HK.out
        simp only [Nat.zero_mul, Nat.zero_add] at y0 y1 y2 y3 y4
        have zg8 := hL.lt.2
        go_wp2_with fail
        refine (setBounds_any _ _ _ _ _ _ _).mono ?_
        rintro x w10 ⟨b5, e5, c5, p5, s5, f5, rfl, hS, hb⟩
        clear y0 y1 y2 y3 y4 zg8 hls
        replace hL := (hL.alloc _).below hb
        replace hC := (hC.alloc _).below hb
        replace hX := (hX.alloc _).below hb
        replace hB := bstep (hB.alloc hB.size _) hb
        clear hb HK
        obtain ⟨rfl, rfl, rfl, rfl, rfl, rfl⟩ : 0 = b5 ∧ 0 = e5 ∧ 0 = c5 ∧ 0 = p5 ∧ 0 = s5 ∧ 3 = f5 := by unfold SetB at hS; omega
        clear hS hgo2 hn1 hgN
        replace hL := hL.alloc (.cells #[.int .u64 0, .int .u64 0, .int .u64 0, .int .u8 0, .int .i64 0] 25)
        replace hC := hC.alloc (.cells #[.int .u64 0, .int .u64 0, .int .u64 0, .int .u8 0, .int .i64 0] 25)
        replace hX := hX.alloc (.cells #[.int .u64 0, .int .u64 0, .int .u64 0, .int .u8 0, .int .i64 0] 25)
        replace hB := hB.alloc hB.size (.cells #[.int .u64 0, .int .u64 0, .int .u64 0, .int .u8 0, .int .i64 0] 25)
        go_wp2_with fail
        go_loopw [23] (fun i wr => ∃ j : Nat, i = .int .i64 j ∧ j ≤ 0 + 1 ∧ LAt wr (w.heap.size + 1) g cp L ∧ At wr w.heap.size #[.int .u64 b1, .int .u64 e1, .int .u64 c, .int .u8 p1, .int .i64 s1] ∧ At wr w4.heap.size #[.int .u64 0, .int .u64 0, .int .u64 0, .int .u8 0, .int .i64 0] ∧ Below w.heap.size w wr) (fun i _ => 0 + 1 - (intOf i).toNat)
        case atStart => exact ⟨0, rfl, by omega, hL, hC, hX, hB⟩
        case round =>
          clear hL hC hB hX
          obtain ⟨j, rfl, hj, hL, hC, hX, hB⟩ := hrel
          have hgN := hL.lt
          have zg := hgN.2
          have q_hC := hC.2.1
          have z_hC := hC.1
          by_cases hgo : j < 0 + 1
          · have hgo' : j < (L : List Kap).length := by rw [HN.out]; exact hgo
            obtain ⟨kk, hkk⟩ : ∃ kk, (L : List Kap)[j] = kk := ⟨_, rfl⟩
            have hgk := hv.1 kk (hkk ▸ List.getElem_mem hgo')
            obtain ⟨y0, y1, y2, y3, y4⟩ := hL.five j hgo' hkk
            clear hkk hgo'
            have hu : underB kk.b kk.e kk.p kk.s b1 e1 p1 s1 = true := hgk.under
            have ht : rightB kk.b kk.e kk.p kk.s = true := hgk.right ⟨hR4, hR5⟩
            go_wp2_with fail
            go_region_with (go_at_call 10; refine (under_any _ _ _ _ _ _ _ _ _ _ _).mono ?_; rintro x w' ⟨rfl, rfl⟩)
            all_goals
              go_wp2_with fail
              refine (right_any _ _ _ _ _ _).mono ?_
              rintro x w' ⟨rfl, rfl⟩
              go_wp2
              go_roundw
              case rel => exact ⟨j + 1, by go_num, by omega, (hL.below (below_three _ _ _ _)).drew, (hC.below (below_three _ _ _ _)).drew, (hX.below (below_three _ _ _ _)).drew, (bstep hB (below_three _ _ _ _)).drew⟩
              case measure => simp [intOf]; omega
          · have q_hX := hX.2.1
            have z_hX := hX.1
            go_wp2
            go_ret
            exact ⟨ret_bool (by simp), hB⟩
end Go.Proofs.Ytmnmflpbpklmiaa
