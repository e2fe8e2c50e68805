import Derived.Test.YtcljibdikhpnlaaDoorQOvW
import Derived.Test.YtcljibdikhpnlaaDoorMFresh
/-
  Programs whose owner appends to their lists: grown.
-/
namespace Go.Proofs.YtcljibdikhpnlaaDoor
namespace Q
open Go.RowKit

/-- A list in a row of its own, in none of the program's, with room for two more in the machine's reach. -/
def Lg (lo hi : Nat) (N : Nat → Prop) (W : World) (e : TypeId) (size : Nat) (a : Option Addr) (n c : Nat) : Prop := (∃ xs, W.ownsRow lo e size (.slice a n c) n xs) ∧ (∀ g, (Value.slice a n c).ownBlock = some g → g < hi ∧ ¬ N g) ∧ (n + 2) * (size * 8) ≤ 140737488355328
theorem own_alloc {w : World} {l e size n : Nat} {v : Value} (q : ∃ xs, w.ownsRow l e size v n xs) (x : Obj) : ∃ xs, (w.alloc x).ownsRow l e size v n xs := by
  obtain ⟨xs, q⟩ := q
  exact ⟨xs, own_below q (((Gr.refl w).alloc x).below)⟩
theorem Lg.gr {lo hi : Nat} {N : Nat → Prop} {W W' : World} {t : TypeId} {size : Nat} {a : Option Addr} {n c : Nat} (h : Lg lo hi N W t size a n c) (g : Gr W W') : Lg lo hi N W' t size a n c := by
  obtain ⟨⟨xs, h1⟩, h2⟩ := h
  exact ⟨⟨xs, own_below h1 g.below⟩, h2⟩
theorem Hdr.grG {lo hi kr kc kg : Nat} {N : Nat → Prop} {W W' : World} {ra ca ga : Option Addr} {nr nc ng : Nat} (h : Hdr (Lg lo hi N W) lo hi kr kc kg W ra ca ga nr nc ng) (g : Gr W W') : Hdr (Lg lo hi N W') lo hi kr kc kg W' ra ca ga nr nc ng := by
  refine ⟨fun i q => ?_, fun i q => ?_, fun i q => ?_, fun q => ⟨(h.hr q).1, (h.hr q).2.1, there_gr g (h.hr q).2.2⟩, fun q => ⟨(h.hc q).1, (h.hc q).2.1, there_gr g (h.hc q).2.2⟩, fun q => ⟨(h.hg q).1, (h.hg q).2.1, there_gr g (h.hg q).2.2⟩, h.n1, h.n2, h.n3⟩
  · obtain ⟨e, a, n, c, q1, q2⟩ := h.r i q
    exact ⟨e, a, n, c, cell_gr g q1, q2.gr g⟩
  · obtain ⟨e, a, n, c, a', n', c', q1, q2, q3, q4⟩ := h.c i q
    exact ⟨e, a, n, c, a', n', c', cell_gr g q1, q2.gr g, cell_gr g q3, q4.gr g⟩
  · obtain ⟨e, a, n, c, a', n', c', q1, q2, q3, q4⟩ := h.g i q
    exact ⟨e, a, n, c, a', n', c', cell_gr g q1, q2.gr g, cell_gr g q3, q4.gr g⟩
set_option maxRecDepth 100000 in
set_option maxHeartbeats 16000000 in
theorem grown_any (lo hi kr kc kg nr nc ng : Nat) (ra ca ga : Option Addr) (rc cc gc : Nat) (d : Int) (w : World) (hI : Hdr (Lg lo hi (IsHd nr nc ng kr kc kg) w) lo hi kr kc kg w ra ca ga nr nc ng) (hhi : hi ≤ w.heap.size) (hlo : lo ≤ hi) (hl0 : nr ≤ 281474976710648) (hl1 : nc ≤ 281474976710648) (hl2 : ng ≤ 281474976710648) :
    Calls Tryd.prog 10 #[.agg #[.slice ra nr rc, .slice ca nc cc, .slice ga ng gc, .int .i64 d]] w fun x w' => x = .returned (.tuple #[]) ∧ ∃ W0, Gr w W0 ∧ Wr lo hi (fun b _ => IsHd nr nc ng kr kc kg b) W0 w' := by
  have hsz := hhi
  replace hI := Hid.mk hI
  go_enter Tryd.func10, Tryd.ntmps10
  go_upto_region 1 with fail
  refine wp_world (fun W => At W w.heap.size #[.slice ra nr rc, .slice ca nc cc, .slice ga ng gc, .int .i64 d] ∧ Gr w W) ⟨At.new w _ _, (Gr.refl w).alloc _⟩ ?_
  rintro W0 ⟨BM, G0⟩
  replace BM := Hid.mk BM
  replace hI : Hid (Hdr (Lg lo hi (IsHd nr nc ng kr kc kg) W0) lo hi kr kc kg W0 ra ca ga nr nc ng) := Hid.mk (hI.out.grG G0)
  have hW0 : w.heap.size < W0.heap.size := BM.out.1
  have hnh : ∀ b, W0.heap.size ≤ b → ¬ IsHd nr nc ng kr kc kg b := fun b q r => by
    rcases r with r | r | r
    · have := (hI.out.hr r.1).2.1; omega
    · have := (hI.out.hc r.1).2.1; omega
    · have := (hI.out.hg r.1).2.1; omega
  have V0 : Hid (Wr lo hi (fun b _ => IsHd nr nc ng kr kc kg b) W0 W0) := Hid.mk (Wr.refl _ _ _ _)
  replace G0 := Hid.mk G0
  go_upto_region 2 with fail
  go_loopw [2] (fun x wr => ∃ i : Nat, x = .int .i64 i ∧ i ≤ nr ∧ Hid (Wr lo hi (fun b _ => IsHd nr nc ng kr kc kg b) W0 wr)) (fun x _ => nr - (intOf x).toNat)
  case atStart => exact ⟨0, rfl, Nat.zero_le _, V0⟩
  case round =>
    clear V0
    obtain ⟨i, rfl, hi', VV⟩ := hrel
    by_cases hn : i < nr
    · have hi1 : (i : Int) < (nr : Int) := Int.ofNat_lt.2 hn
      have hhd : IsHd nr nc ng kr kc kg kr := by unfold IsHd; omega
      have hlt : kr < W0.heap.size := by have := (hI.out.hr (by omega)).2.1; omega
      obtain ⟨rfl, a1, n, c1, ea1, hL⟩ := hI.out.r i hn
      replace ea1 := Hid.mk ea1
      replace hL := Hid.mk hL
      have m0 : wr.cell? ⟨w.heap.size, 0, none⟩ = some (.slice (some ⟨kr, 0, none⟩) nr rc) := (VV.out.at_ BM.out (by omega)).2.1 0
      have e3 : wr.cell? ⟨kr, i * 4 + 1 + 1 + 1, none⟩ = some (.slice a1 n c1) := (VV.out.hd kr _ hlt hhd).trans ea1.out
      go_upto_region 4 with fail
      refine wp_region_lit ?_
      refine wpList_plain rfl (fun K hK => ?_)
      go_simp
      with_reducible refine hK _ _ ?_
      clear hK K
      try simp only [Act.put, List.setIfInBounds_toArray, List.set_cons_zero, List.set_cons_succ]
      refine wpList_plain rfl (fun K hK => ?_)
      go_simp
      with_reducible refine hK _ _ ?_
      clear hK K
      try simp only [Act.put, List.setIfInBounds_toArray, List.set_cons_zero, List.set_cons_succ]
      refine wpList_plain rfl (fun K hK => ?_)
      go_simp
      with_reducible refine hK _ _ ?_
      clear hK K
      try simp only [Act.put, List.setIfInBounds_toArray, List.set_cons_zero, List.set_cons_succ]
      refine wpList_plain rfl (fun K hK => ?_)
      go_simp
      with_reducible refine hK _ _ ?_
      clear hK K
      try simp only [Act.put, List.setIfInBounds_toArray, List.set_cons_zero, List.set_cons_succ]
      refine wpList_plain rfl (fun K hK => ?_)
      go_simp
      with_reducible refine hK _ _ ?_
      clear hK K
      try simp only [Act.put, List.setIfInBounds_toArray, List.set_cons_zero, List.set_cons_succ]
      refine wpList_plain rfl (fun K hK => ?_)
      go_simp
      with_reducible refine hK _ _ ?_
      clear hK K
      try simp only [Act.put, List.setIfInBounds_toArray, List.set_cons_zero, List.set_cons_succ]
      refine wpList_plain rfl (fun K hK => ?_)
      go_simp
      with_reducible refine hK _ _ ?_
      clear hK K
      try simp only [Act.put, List.setIfInBounds_toArray, List.set_cons_zero, List.set_cons_succ]
      refine wpList_plain rfl (fun K hK => ?_)
      go_simp
      with_reducible refine hK _ _ ?_
      clear hK K
      try simp only [Act.put, List.setIfInBounds_toArray, List.set_cons_zero, List.set_cons_succ]
      refine wpList_plain rfl (fun K hK => ?_)
      go_simp
      with_reducible refine hK _ _ ?_
      clear hK K
      try simp only [Act.put, List.setIfInBounds_toArray, List.set_cons_zero, List.set_cons_succ]
      refine wpList_append_wr rfl (.tmp 26) (.tmp 29) 45 69 _ 8 64 rfl Tryd.underlying45 infoSlot rfl (by decide) (by decide) lo hi (fun b _ => IsHd nr nc ng kr kc kg b) W0 (VV.out.gr ((Gr.refl _).alloc _)) (by omega) (.slice a1 n c1) n rfl (own_alloc (VV.out.own hL.out.1) _) (fun b q => ⟨(hL.out.2.1 b q).1, fun _ r => (hL.out.2.1 b q).2 r⟩) wr.heap.size [Value.bool false, .int .u64 0, .int .u64 0, .int .u64 0, .int .u64 0, .int .u8 0, .int .i64 0, .int .u64 5, .bool false, .int .u64 0, .int .u64 0, .int .u64 0, .int .u64 0, .int .u8 0, .int .i64 0, .int .u64 6] rfl (At.new _ _ _) rfl (by simp [Value.oneCell']) hL.out.2.2 ?_
      intro gN cN wN hO hV hgN
      clear m0 e3
      try simp only [Act.put, List.setIfInBounds_toArray, List.set_cons_zero, List.set_cons_succ]
      clear VV
      have VV := Hid.mk hV
      replace hO := Hid.mk hO
      replace hgN := Hid.mk hgN
      clear hV
      have hq : n + 2 ≤ 281474976710648 := by have := hL.out.2.2; omega
      generalize n + 2 = nq at *
      have hcl := Hid.mk (markW_any lo hi (fun b _ => IsHd nr nc ng kr kc kg b) W0 wN (some ⟨gN, 0, none⟩) nq cN VV.out (fun q => ⟨gN, rfl, hgN.out.imp (fun q => ⟨q.1, q.2.1⟩) id, fun o' q => by
        rcases hgN.out with r | r
        · exact absurd q (r.2.2 o')
        · exact absurd q (hnh gN r), own_there hO.out.choose_spec⟩) hq)
      go_wp2_with fail
      refine hcl.out.mono ?_
      rintro x V1 ⟨rfl, q1⟩
      clear hcl VV
      have VV := Hid.mk q1
      clear q1
      go_wp2_with fail
      refine ⟨⟨i + 1, ?_, hn, VV⟩, ?_⟩
      · first | rfl | rw [next_wO hn hl0] | go_num
      · first | exact next_mO hn | (rw [next_wO hn hl0]; exact next_mO hn)
    · have hi1 : ¬ (i : Int) < (nr : Int) := fun q => hn (Int.ofNat_lt.1 q)
      have m0 : wr.cell? ⟨w.heap.size, 0, none⟩ = some (.slice ra nr rc) := (VV.out.at_ BM.out (by omega)).2.1 0
      go_upto_region 7 with fail
      clear m0
      have V2 := VV
      clear VV
      go_loopw [4] (fun x wr => ∃ i : Nat, x = .int .i64 i ∧ i ≤ nc ∧ Hid (Wr lo hi (fun b _ => IsHd nr nc ng kr kc kg b) W0 wr)) (fun x _ => nc - (intOf x).toNat)
      case atStart => exact ⟨0, rfl, Nat.zero_le _, V2⟩
      case round =>
        clear V2
        obtain ⟨i, rfl, hi', VV⟩ := hrel
        by_cases hn : i < nc
        · have hi1 : (i : Int) < (nc : Int) := Int.ofNat_lt.2 hn
          have hhd : IsHd nr nc ng kr kc kg kc := by unfold IsHd; omega
          have hlt : kc < W0.heap.size := by have := (hI.out.hc (by omega)).2.1; omega
          obtain ⟨rfl, a1, n, c1, a2, n', c2, ea1, hL, ea2, hL2⟩ := hI.out.c i hn
          replace ea1 := Hid.mk ea1
          replace ea2 := Hid.mk ea2
          replace hL := Hid.mk hL
          replace hL2 := Hid.mk hL2
          have m1 : wr.cell? ⟨w.heap.size, 1, none⟩ = some (.slice (some ⟨kc, 0, none⟩) nc cc) := (VV.out.at_ BM.out (by omega)).2.1 1
          have e3 : wr.cell? ⟨kc, i * 2 + 1, none⟩ = some (.slice a2 n' c2) := (VV.out.hd kc _ hlt hhd).trans ea2.out
          go_upto_region 9 with fail
          refine wp_region_lit ?_
          refine wpList_plain rfl (fun K hK => ?_)
          go_simp
          with_reducible refine hK _ _ ?_
          clear hK K
          try simp only [Act.put, List.setIfInBounds_toArray, List.set_cons_zero, List.set_cons_succ]
          refine wpList_plain rfl (fun K hK => ?_)
          go_simp
          with_reducible refine hK _ _ ?_
          clear hK K
          try simp only [Act.put, List.setIfInBounds_toArray, List.set_cons_zero, List.set_cons_succ]
          refine wpList_plain rfl (fun K hK => ?_)
          go_simp
          with_reducible refine hK _ _ ?_
          clear hK K
          try simp only [Act.put, List.setIfInBounds_toArray, List.set_cons_zero, List.set_cons_succ]
          refine wpList_plain rfl (fun K hK => ?_)
          go_simp
          with_reducible refine hK _ _ ?_
          clear hK K
          try simp only [Act.put, List.setIfInBounds_toArray, List.set_cons_zero, List.set_cons_succ]
          refine wpList_plain rfl (fun K hK => ?_)
          go_simp
          with_reducible refine hK _ _ ?_
          clear hK K
          try simp only [Act.put, List.setIfInBounds_toArray, List.set_cons_zero, List.set_cons_succ]
          refine wpList_plain rfl (fun K hK => ?_)
          go_simp
          with_reducible refine hK _ _ ?_
          clear hK K
          try simp only [Act.put, List.setIfInBounds_toArray, List.set_cons_zero, List.set_cons_succ]
          refine wpList_plain rfl (fun K hK => ?_)
          go_simp
          with_reducible refine hK _ _ ?_
          clear hK K
          try simp only [Act.put, List.setIfInBounds_toArray, List.set_cons_zero, List.set_cons_succ]
          refine wpList_plain rfl (fun K hK => ?_)
          go_simp
          with_reducible refine hK _ _ ?_
          clear hK K
          try simp only [Act.put, List.setIfInBounds_toArray, List.set_cons_zero, List.set_cons_succ]
          refine wpList_plain rfl (fun K hK => ?_)
          go_simp
          with_reducible refine hK _ _ ?_
          clear hK K
          try simp only [Act.put, List.setIfInBounds_toArray, List.set_cons_zero, List.set_cons_succ]
          refine wpList_append_wr rfl (.tmp 45) (.tmp 48) 50 74 _ 5 40 rfl Tryd.underlying50 infoInst rfl (by decide) (by decide) lo hi (fun b _ => IsHd nr nc ng kr kc kg b) W0 (VV.out.gr ((Gr.refl _).alloc _)) (by omega) (.slice a2 n' c2) n' rfl (own_alloc (VV.out.own hL2.out.1) _) (fun b q => ⟨(hL2.out.2.1 b q).1, fun _ r => (hL2.out.2.1 b q).2 r⟩) wr.heap.size [Value.int .u8 99, .int .i64 0, .int .i64 0, .int .i64 0, .int .i64 0, .int .u8 99, .int .i64 0, .int .i64 0, .int .i64 0, .int .i64 0] rfl (At.new _ _ _) rfl (by simp [Value.oneCell']) hL2.out.2.2 ?_
          intro gN cN wN hO hV hgN
          clear m1 e3
          try simp only [Act.put, List.setIfInBounds_toArray, List.set_cons_zero, List.set_cons_succ]
          clear VV
          have VV := Hid.mk hV
          replace hO := Hid.mk hO
          replace hgN := Hid.mk hgN
          clear hV
          have hq : n' + 2 ≤ 281474976710648 := by have := hL2.out.2.2; omega
          generalize n' + 2 = nq at *
          go_upto_region 11 with fail
          have VV0 := VV
          have hO0 := hO
          clear VV hO
          go_loopw [6] (fun x wr => ∃ k : Nat, x = .int .i64 k ∧ k ≤ nq ∧ Hid (Wr lo hi (fun b _ => IsHd nr nc ng kr kc kg b) W0 wr) ∧ Hid (∃ xs, wr.ownsRow lo 74 5 (.slice (some ⟨gN, 0, none⟩) nq cN) nq xs)) (fun x _ => nq - (intOf x).toNat)
          case atStart => exact ⟨0, rfl, Nat.zero_le _, VV0, hO0⟩
          case round =>
            clear VV0 hO0
            obtain ⟨k, rfl, hk', VV, hO⟩ := hrel
            by_cases hk : k < nq
            · have hk1 : (k : Int) < (nq : Int) := Int.ofNat_lt.2 hk
              have hT := Hid.mk (there_mid (k := 5) (own_there hO.out.choose_spec) (el_le hk))
              go_upto_region 13 with fail
              refine wp_region_lit ?_
              refine wpList_plain rfl (fun K hK => ?_)
              go_simp
              with_reducible refine hK _ _ ?_
              clear hK K
              try simp only [Act.put, List.setIfInBounds_toArray, List.set_cons_zero, List.set_cons_succ]
              refine wpList_plain rfl (fun K hK => ?_)
              go_simp
              with_reducible refine hK _ _ ?_
              clear hK K
              try simp only [Act.put, List.setIfInBounds_toArray, List.set_cons_zero, List.set_cons_succ]
              refine wpList_plain rfl (fun K hK => ?_)
              go_simp
              with_reducible refine hK _ _ ?_
              clear hK K
              try simp only [Act.put, List.setIfInBounds_toArray, List.set_cons_zero, List.set_cons_succ]
              refine wpList_plain rfl (fun K hK => ?_)
              go_simp
              with_reducible refine hK _ _ ?_
              clear hK K
              try simp only [Act.put, List.setIfInBounds_toArray, List.set_cons_zero, List.set_cons_succ]
              replace VV : Hid (Wr lo hi (fun b _ => IsHd nr nc ng kr kc kg b) W0 _) := Hid.mk (VV.out.sets gN (k * 5) [Value.int .u8 98, .int .i64 0, .int .i64 0, .int .i64 0, .int .i64 0] (hgN.out.imp (fun q => ⟨q.1, q.2.1⟩) id) (fun _ _ q => q) (fun o' q => by
                rcases hgN.out with r | r
                · exact absurd q (r.2.2 o')
                · exact absurd q (by have := hnh gN r; exact this)))
              replace hO := Hid.mk (own_sets hO.out gN (k * 5) [Value.int .u8 98, .int .i64 0, .int .i64 0, .int .i64 0, .int .i64 0])
              refine wpList_plain rfl (fun K hK => ?_)
              refine wp_store_mid _ _ _ rfl _ _ (List.toArray [Value.int .u8 98, .int .i64 0, .int .i64 0, .int .i64 0, .int .i64 0]) rfl rfl hT.out (by kernel_rfl) (all_oneCell_toArray (by simp [Value.oneCell'])) (hK _ _ ?_)
              clear hK K hT
              try simp only [Act.put]
              generalize World.setCells _ _ _ _ = V9 at *
              go_wp2_with fail
              refine ⟨⟨k + 1, ?_, hk, VV, hO⟩, ?_⟩
              · first | rfl | rw [next_wO hk hq] | go_num
              · first | exact next_mO hk | (rw [next_wO hk hq]; exact next_mO hk)
            · have hk1 : ¬ (k : Int) < (nq : Int) := fun q => hk (Int.ofNat_lt.1 q)
              clear hO
              go_upto_region 14 with fail
              clear hq hgN
              have m1 : wr.cell? ⟨w.heap.size, 1, none⟩ = some (.slice (some ⟨kc, 0, none⟩) nc cc) := (VV.out.at_ BM.out (by omega)).2.1 1
              have e3 : wr.cell? ⟨kc, i * 2, none⟩ = some (.slice a1 n c1) := (VV.out.hd kc _ hlt hhd).trans ea1.out
              refine wp_region_lit ?_
              refine wpList_plain rfl (fun K hK => ?_)
              go_simp
              with_reducible refine hK _ _ ?_
              clear hK K
              try simp only [Act.put, List.setIfInBounds_toArray, List.set_cons_zero, List.set_cons_succ]
              refine wpList_plain rfl (fun K hK => ?_)
              go_simp
              with_reducible refine hK _ _ ?_
              clear hK K
              try simp only [Act.put, List.setIfInBounds_toArray, List.set_cons_zero, List.set_cons_succ]
              refine wpList_plain rfl (fun K hK => ?_)
              go_simp
              with_reducible refine hK _ _ ?_
              clear hK K
              try simp only [Act.put, List.setIfInBounds_toArray, List.set_cons_zero, List.set_cons_succ]
              refine wpList_plain rfl (fun K hK => ?_)
              go_simp
              with_reducible refine hK _ _ ?_
              clear hK K
              try simp only [Act.put, List.setIfInBounds_toArray, List.set_cons_zero, List.set_cons_succ]
              refine wpList_plain rfl (fun K hK => ?_)
              go_simp
              with_reducible refine hK _ _ ?_
              clear hK K
              try simp only [Act.put, List.setIfInBounds_toArray, List.set_cons_zero, List.set_cons_succ]
              refine wpList_plain rfl (fun K hK => ?_)
              go_simp
              with_reducible refine hK _ _ ?_
              clear hK K
              try simp only [Act.put, List.setIfInBounds_toArray, List.set_cons_zero, List.set_cons_succ]
              refine wpList_plain rfl (fun K hK => ?_)
              go_simp
              with_reducible refine hK _ _ ?_
              clear hK K
              try simp only [Act.put, List.setIfInBounds_toArray, List.set_cons_zero, List.set_cons_succ]
              refine wpList_plain rfl (fun K hK => ?_)
              go_simp
              with_reducible refine hK _ _ ?_
              clear hK K
              try simp only [Act.put, List.setIfInBounds_toArray, List.set_cons_zero, List.set_cons_succ]
              refine wpList_plain rfl (fun K hK => ?_)
              go_simp
              with_reducible refine hK _ _ ?_
              clear hK K
              try simp only [Act.put, List.setIfInBounds_toArray, List.set_cons_zero, List.set_cons_succ]
              refine wpList_append_wr rfl (.tmp 65) (.tmp 68) 49 71 _ 6 48 rfl Tryd.underlying49 infoRoot rfl (by decide) (by decide) lo hi (fun b _ => IsHd nr nc ng kr kc kg b) W0 (VV.out.gr ((Gr.refl _).alloc _)) (by omega) (.slice a1 n c1) n rfl (own_alloc (VV.out.own hL.out.1) _) (fun b q => ⟨(hL.out.2.1 b q).1, fun _ r => (hL.out.2.1 b q).2 r⟩) wr.heap.size [Value.int .i64 99, .int .u64 0, .int .u64 0, .int .u64 0, .int .u8 0, .int .i64 0, .int .i64 99, .int .u64 0, .int .u64 0, .int .u64 0, .int .u8 0, .int .i64 0] rfl (At.new _ _ _) rfl (by simp [Value.oneCell']) hL.out.2.2 ?_
              intro gN cN wN hO hV hgN
              clear m1 e3
              try simp only [Act.put, List.setIfInBounds_toArray, List.set_cons_zero, List.set_cons_succ]
              clear VV
              have VV := Hid.mk hV
              replace hO := Hid.mk hO
              replace hgN := Hid.mk hgN
              clear hV
              have hq : n + 2 ≤ 281474976710648 := by have := hL.out.2.2; omega
              generalize n + 2 = nq at *
              go_upto_region 16 with fail
              have VV0 := VV
              have hO0 := hO
              clear VV hO
              go_loopw [8] (fun x wr => ∃ k : Nat, x = .int .i64 k ∧ k ≤ nq ∧ Hid (Wr lo hi (fun b _ => IsHd nr nc ng kr kc kg b) W0 wr) ∧ Hid (∃ xs, wr.ownsRow lo 71 6 (.slice (some ⟨gN, 0, none⟩) nq cN) nq xs)) (fun x _ => nq - (intOf x).toNat)
              case atStart => exact ⟨0, rfl, Nat.zero_le _, VV0, hO0⟩
              case round =>
                clear VV0 hO0
                obtain ⟨k, rfl, hk', VV, hO⟩ := hrel
                by_cases hk : k < nq
                · have hk1 : (k : Int) < (nq : Int) := Int.ofNat_lt.2 hk
                  have hT := Hid.mk (there_mid (k := 6) (own_there hO.out.choose_spec) (el_le hk))
                  go_upto_region 18 with fail
                  refine wp_region_lit ?_
                  refine wpList_plain rfl (fun K hK => ?_)
                  go_simp
                  with_reducible refine hK _ _ ?_
                  clear hK K
                  try simp only [Act.put, List.setIfInBounds_toArray, List.set_cons_zero, List.set_cons_succ]
                  refine wpList_plain rfl (fun K hK => ?_)
                  go_simp
                  with_reducible refine hK _ _ ?_
                  clear hK K
                  try simp only [Act.put, List.setIfInBounds_toArray, List.set_cons_zero, List.set_cons_succ]
                  refine wpList_plain rfl (fun K hK => ?_)
                  go_simp
                  with_reducible refine hK _ _ ?_
                  clear hK K
                  try simp only [Act.put, List.setIfInBounds_toArray, List.set_cons_zero, List.set_cons_succ]
                  refine wpList_plain rfl (fun K hK => ?_)
                  go_simp
                  with_reducible refine hK _ _ ?_
                  clear hK K
                  try simp only [Act.put, List.setIfInBounds_toArray, List.set_cons_zero, List.set_cons_succ]
                  replace VV : Hid (Wr lo hi (fun b _ => IsHd nr nc ng kr kc kg b) W0 _) := Hid.mk (VV.out.sets gN (k * 6) [Value.int .i64 98, .int .u64 0, .int .u64 0, .int .u64 0, .int .u8 0, .int .i64 0] (hgN.out.imp (fun q => ⟨q.1, q.2.1⟩) id) (fun _ _ q => q) (fun o' q => by
                    rcases hgN.out with r | r
                    · exact absurd q (r.2.2 o')
                    · exact absurd q (by have := hnh gN r; exact this)))
                  replace hO := Hid.mk (own_sets hO.out gN (k * 6) [Value.int .i64 98, .int .u64 0, .int .u64 0, .int .u64 0, .int .u8 0, .int .i64 0])
                  refine wpList_plain rfl (fun K hK => ?_)
                  refine wp_store_mid _ _ _ rfl _ _ (List.toArray [Value.int .i64 98, .int .u64 0, .int .u64 0, .int .u64 0, .int .u8 0, .int .i64 0]) rfl rfl hT.out (by kernel_rfl) (all_oneCell_toArray (by simp [Value.oneCell'])) (hK _ _ ?_)
                  clear hK K hT
                  try simp only [Act.put]
                  generalize World.setCells _ _ _ _ = V9 at *
                  go_wp2_with fail
                  refine ⟨⟨k + 1, ?_, hk, VV, hO⟩, ?_⟩
                  · first | rfl | rw [next_wO hk hq] | go_num
                  · first | exact next_mO hk | (rw [next_wO hk hq]; exact next_mO hk)
                · have hk1 : ¬ (k : Int) < (nq : Int) := fun q => hk (Int.ofNat_lt.1 q)
                  clear hO
                  go_wp2_with fail
                  refine ⟨⟨i + 1, ?_, hn, VV⟩, ?_⟩
                  · first | rfl | rw [next_wO hn hl1] | go_num
                  · first | exact next_mO hn | (rw [next_wO hn hl1]; exact next_mO hn)
        · have hi1 : ¬ (i : Int) < (nc : Int) := fun q => hn (Int.ofNat_lt.1 q)
          have m1 : wr.cell? ⟨w.heap.size, 1, none⟩ = some (.slice ca nc cc) := (VV.out.at_ BM.out (by omega)).2.1 1
          go_upto_region 20 with fail
          clear m1
          have V3 := VV
          clear VV
          go_loopw [9] (fun x wr => ∃ i : Nat, x = .int .i64 i ∧ i ≤ ng ∧ Hid (Wr lo hi (fun b _ => IsHd nr nc ng kr kc kg b) W0 wr)) (fun x _ => ng - (intOf x).toNat)
          case atStart => exact ⟨0, rfl, Nat.zero_le _, V3⟩
          case round =>
            clear V3
            obtain ⟨i, rfl, hi', VV⟩ := hrel
            by_cases hn : i < ng
            · have hi1 : (i : Int) < (ng : Int) := Int.ofNat_lt.2 hn
              have hhd : IsHd nr nc ng kr kc kg kg := by unfold IsHd; omega
              have hlt : kg < W0.heap.size := by have := (hI.out.hg (by omega)).2.1; omega
              obtain ⟨rfl, a1, n, c1, a2, n', c2, ea1, hL, ea2, hL2⟩ := hI.out.g i hn
              replace ea1 := Hid.mk ea1
              replace ea2 := Hid.mk ea2
              replace hL := Hid.mk hL
              replace hL2 := Hid.mk hL2
              have m2 : wr.cell? ⟨w.heap.size, 2, none⟩ = some (.slice (some ⟨kg, 0, none⟩) ng gc) := (VV.out.at_ BM.out (by omega)).2.1 2
              have e3 : wr.cell? ⟨kg, i * 4 + 1 + 1, none⟩ = some (.slice a1 n c1) := (VV.out.hd kg _ hlt hhd).trans ea1.out
              go_upto_region 22 with fail
              refine wp_region_lit ?_
              refine wpList_plain rfl (fun K hK => ?_)
              go_simp
              with_reducible refine hK _ _ ?_
              clear hK K
              try simp only [Act.put, List.setIfInBounds_toArray, List.set_cons_zero, List.set_cons_succ]
              refine wpList_plain rfl (fun K hK => ?_)
              go_simp
              with_reducible refine hK _ _ ?_
              clear hK K
              try simp only [Act.put, List.setIfInBounds_toArray, List.set_cons_zero, List.set_cons_succ]
              refine wpList_plain rfl (fun K hK => ?_)
              go_simp
              with_reducible refine hK _ _ ?_
              clear hK K
              try simp only [Act.put, List.setIfInBounds_toArray, List.set_cons_zero, List.set_cons_succ]
              refine wpList_plain rfl (fun K hK => ?_)
              go_simp
              with_reducible refine hK _ _ ?_
              clear hK K
              try simp only [Act.put, List.setIfInBounds_toArray, List.set_cons_zero, List.set_cons_succ]
              refine wpList_plain rfl (fun K hK => ?_)
              go_simp
              with_reducible refine hK _ _ ?_
              clear hK K
              try simp only [Act.put, List.setIfInBounds_toArray, List.set_cons_zero, List.set_cons_succ]
              refine wpList_plain rfl (fun K hK => ?_)
              go_simp
              with_reducible refine hK _ _ ?_
              clear hK K
              try simp only [Act.put, List.setIfInBounds_toArray, List.set_cons_zero, List.set_cons_succ]
              refine wpList_plain rfl (fun K hK => ?_)
              go_simp
              with_reducible refine hK _ _ ?_
              clear hK K
              try simp only [Act.put, List.setIfInBounds_toArray, List.set_cons_zero, List.set_cons_succ]
              refine wpList_plain rfl (fun K hK => ?_)
              go_simp
              with_reducible refine hK _ _ ?_
              clear hK K
              try simp only [Act.put, List.setIfInBounds_toArray, List.set_cons_zero, List.set_cons_succ]
              refine wpList_plain rfl (fun K hK => ?_)
              go_simp
              with_reducible refine hK _ _ ?_
              clear hK K
              try simp only [Act.put, List.setIfInBounds_toArray, List.set_cons_zero, List.set_cons_succ]
              refine wpList_append_wr rfl (.tmp 92) (.tmp 95) 53 67 _ 7 56 rfl Tryd.underlying53 infoType rfl (by decide) (by decide) lo hi (fun b _ => IsHd nr nc ng kr kc kg b) W0 (VV.out.gr ((Gr.refl _).alloc _)) (by omega) (.slice a1 n c1) n rfl (own_alloc (VV.out.own hL.out.1) _) (fun b q => ⟨(hL.out.2.1 b q).1, fun _ r => (hL.out.2.1 b q).2 r⟩) wr.heap.size [Value.bool false, .int .u64 0, .int .u64 0, .int .u64 0, .int .u64 9, .int .u8 0, .int .i64 0, .bool false, .int .u64 0, .int .u64 0, .int .u64 0, .int .u64 9, .int .u8 0, .int .i64 0] rfl (At.new _ _ _) rfl (by simp [Value.oneCell']) hL.out.2.2 ?_
              intro gN cN wN hO hV hgN
              clear m2 e3
              try simp only [Act.put, List.setIfInBounds_toArray, List.set_cons_zero, List.set_cons_succ]
              clear VV
              have VV := Hid.mk hV
              replace hO := Hid.mk hO
              replace hgN := Hid.mk hgN
              clear hV
              have hq : n + 2 ≤ 281474976710648 := by have := hL.out.2.2; omega
              generalize n + 2 = nq at *
              go_upto_region 24 with fail
              have VV0 := VV
              have hO0 := hO
              clear VV hO
              go_loopw [11] (fun x wr => ∃ k : Nat, x = .int .i64 k ∧ k ≤ nq ∧ Hid (Wr lo hi (fun b _ => IsHd nr nc ng kr kc kg b) W0 wr) ∧ Hid (∃ xs, wr.ownsRow lo 67 7 (.slice (some ⟨gN, 0, none⟩) nq cN) nq xs)) (fun x _ => nq - (intOf x).toNat)
              case atStart => exact ⟨0, rfl, Nat.zero_le _, VV0, hO0⟩
              case round =>
                clear VV0 hO0
                obtain ⟨k, rfl, hk', VV, hO⟩ := hrel
                by_cases hk : k < nq
                · have hk1 : (k : Int) < (nq : Int) := Int.ofNat_lt.2 hk
                  have hT := Hid.mk (there_mid (k := 7) (own_there hO.out.choose_spec) (el_le hk))
                  go_upto_region 26 with fail
                  refine wp_region_lit ?_
                  refine wpList_plain rfl (fun K hK => ?_)
                  go_simp
                  with_reducible refine hK _ _ ?_
                  clear hK K
                  try simp only [Act.put, List.setIfInBounds_toArray, List.set_cons_zero, List.set_cons_succ]
                  refine wpList_plain rfl (fun K hK => ?_)
                  go_simp
                  with_reducible refine hK _ _ ?_
                  clear hK K
                  try simp only [Act.put, List.setIfInBounds_toArray, List.set_cons_zero, List.set_cons_succ]
                  refine wpList_plain rfl (fun K hK => ?_)
                  go_simp
                  with_reducible refine hK _ _ ?_
                  clear hK K
                  try simp only [Act.put, List.setIfInBounds_toArray, List.set_cons_zero, List.set_cons_succ]
                  refine wpList_plain rfl (fun K hK => ?_)
                  go_simp
                  with_reducible refine hK _ _ ?_
                  clear hK K
                  try simp only [Act.put, List.setIfInBounds_toArray, List.set_cons_zero, List.set_cons_succ]
                  replace VV : Hid (Wr lo hi (fun b _ => IsHd nr nc ng kr kc kg b) W0 _) := Hid.mk (VV.out.sets gN (k * 7) [Value.bool false, .int .u64 0, .int .u64 0, .int .u64 98, .int .u64 0, .int .u8 0, .int .i64 0] (hgN.out.imp (fun q => ⟨q.1, q.2.1⟩) id) (fun _ _ q => q) (fun o' q => by
                    rcases hgN.out with r | r
                    · exact absurd q (r.2.2 o')
                    · exact absurd q (by have := hnh gN r; exact this)))
                  replace hO := Hid.mk (own_sets hO.out gN (k * 7) [Value.bool false, .int .u64 0, .int .u64 0, .int .u64 98, .int .u64 0, .int .u8 0, .int .i64 0])
                  refine wpList_plain rfl (fun K hK => ?_)
                  refine wp_store_mid _ _ _ rfl _ _ (List.toArray [Value.bool false, .int .u64 0, .int .u64 0, .int .u64 98, .int .u64 0, .int .u8 0, .int .i64 0]) rfl rfl hT.out (by kernel_rfl) (all_oneCell_toArray (by simp [Value.oneCell'])) (hK _ _ ?_)
                  clear hK K hT
                  try simp only [Act.put]
                  generalize World.setCells _ _ _ _ = V9 at *
                  go_wp2_with fail
                  refine ⟨⟨k + 1, ?_, hk, VV, hO⟩, ?_⟩
                  · first | rfl | rw [next_wO hk hq] | go_num
                  · first | exact next_mO hk | (rw [next_wO hk hq]; exact next_mO hk)
                · have hk1 : ¬ (k : Int) < (nq : Int) := fun q => hk (Int.ofNat_lt.1 q)
                  clear hO
                  go_upto_region 27 with fail
                  clear hq hgN
                  have m2 : wr.cell? ⟨w.heap.size, 2, none⟩ = some (.slice (some ⟨kg, 0, none⟩) ng gc) := (VV.out.at_ BM.out (by omega)).2.1 2
                  have e3 : wr.cell? ⟨kg, i * 4 + 1 + 1 + 1, none⟩ = some (.slice a2 n' c2) := (VV.out.hd kg _ hlt hhd).trans ea2.out
                  refine wp_region_lit ?_
                  refine wpList_plain rfl (fun K hK => ?_)
                  go_simp
                  with_reducible refine hK _ _ ?_
                  clear hK K
                  try simp only [Act.put, List.setIfInBounds_toArray, List.set_cons_zero, List.set_cons_succ]
                  refine wpList_plain rfl (fun K hK => ?_)
                  go_simp
                  with_reducible refine hK _ _ ?_
                  clear hK K
                  try simp only [Act.put, List.setIfInBounds_toArray, List.set_cons_zero, List.set_cons_succ]
                  refine wpList_plain rfl (fun K hK => ?_)
                  go_simp
                  with_reducible refine hK _ _ ?_
                  clear hK K
                  try simp only [Act.put, List.setIfInBounds_toArray, List.set_cons_zero, List.set_cons_succ]
                  refine wpList_plain rfl (fun K hK => ?_)
                  go_simp
                  with_reducible refine hK _ _ ?_
                  clear hK K
                  try simp only [Act.put, List.setIfInBounds_toArray, List.set_cons_zero, List.set_cons_succ]
                  refine wpList_plain rfl (fun K hK => ?_)
                  go_simp
                  with_reducible refine hK _ _ ?_
                  clear hK K
                  try simp only [Act.put, List.setIfInBounds_toArray, List.set_cons_zero, List.set_cons_succ]
                  refine wpList_plain rfl (fun K hK => ?_)
                  go_simp
                  with_reducible refine hK _ _ ?_
                  clear hK K
                  try simp only [Act.put, List.setIfInBounds_toArray, List.set_cons_zero, List.set_cons_succ]
                  refine wpList_plain rfl (fun K hK => ?_)
                  go_simp
                  with_reducible refine hK _ _ ?_
                  clear hK K
                  try simp only [Act.put, List.setIfInBounds_toArray, List.set_cons_zero, List.set_cons_succ]
                  refine wpList_plain rfl (fun K hK => ?_)
                  go_simp
                  with_reducible refine hK _ _ ?_
                  clear hK K
                  try simp only [Act.put, List.setIfInBounds_toArray, List.set_cons_zero, List.set_cons_succ]
                  refine wpList_plain rfl (fun K hK => ?_)
                  go_simp
                  with_reducible refine hK _ _ ?_
                  clear hK K
                  try simp only [Act.put, List.setIfInBounds_toArray, List.set_cons_zero, List.set_cons_succ]
                  refine wpList_append_wr rfl (.tmp 112) (.tmp 115) 53 67 _ 7 56 rfl Tryd.underlying53 infoType rfl (by decide) (by decide) lo hi (fun b _ => IsHd nr nc ng kr kc kg b) W0 (VV.out.gr ((Gr.refl _).alloc _)) (by omega) (.slice a2 n' c2) n' rfl (own_alloc (VV.out.own hL2.out.1) _) (fun b q => ⟨(hL2.out.2.1 b q).1, fun _ r => (hL2.out.2.1 b q).2 r⟩) wr.heap.size [Value.bool false, .int .u64 0, .int .u64 0, .int .u64 0, .int .u64 9, .int .u8 0, .int .i64 0, .bool false, .int .u64 0, .int .u64 0, .int .u64 0, .int .u64 9, .int .u8 0, .int .i64 0] rfl (At.new _ _ _) rfl (by simp [Value.oneCell']) hL2.out.2.2 ?_
                  intro gN cN wN hO hV hgN
                  clear m2 e3
                  try simp only [Act.put, List.setIfInBounds_toArray, List.set_cons_zero, List.set_cons_succ]
                  clear VV
                  have VV := Hid.mk hV
                  replace hO := Hid.mk hO
                  replace hgN := Hid.mk hgN
                  clear hV
                  have hq : n' + 2 ≤ 281474976710648 := by have := hL2.out.2.2; omega
                  generalize n' + 2 = nq at *
                  go_upto_region 29 with fail
                  have VV0 := VV
                  have hO0 := hO
                  clear VV hO
                  go_loopw [13] (fun x wr => ∃ k : Nat, x = .int .i64 k ∧ k ≤ nq ∧ Hid (Wr lo hi (fun b _ => IsHd nr nc ng kr kc kg b) W0 wr) ∧ Hid (∃ xs, wr.ownsRow lo 67 7 (.slice (some ⟨gN, 0, none⟩) nq cN) nq xs)) (fun x _ => nq - (intOf x).toNat)
                  case atStart => exact ⟨0, rfl, Nat.zero_le _, VV0, hO0⟩
                  case round =>
                    clear VV0 hO0
                    obtain ⟨k, rfl, hk', VV, hO⟩ := hrel
                    by_cases hk : k < nq
                    · have hk1 : (k : Int) < (nq : Int) := Int.ofNat_lt.2 hk
                      have hT := Hid.mk (there_mid (k := 7) (own_there hO.out.choose_spec) (el_le hk))
                      go_upto_region 31 with fail
                      refine wp_region_lit ?_
                      refine wpList_plain rfl (fun K hK => ?_)
                      go_simp
                      with_reducible refine hK _ _ ?_
                      clear hK K
                      try simp only [Act.put, List.setIfInBounds_toArray, List.set_cons_zero, List.set_cons_succ]
                      refine wpList_plain rfl (fun K hK => ?_)
                      go_simp
                      with_reducible refine hK _ _ ?_
                      clear hK K
                      try simp only [Act.put, List.setIfInBounds_toArray, List.set_cons_zero, List.set_cons_succ]
                      refine wpList_plain rfl (fun K hK => ?_)
                      go_simp
                      with_reducible refine hK _ _ ?_
                      clear hK K
                      try simp only [Act.put, List.setIfInBounds_toArray, List.set_cons_zero, List.set_cons_succ]
                      refine wpList_plain rfl (fun K hK => ?_)
                      go_simp
                      with_reducible refine hK _ _ ?_
                      clear hK K
                      try simp only [Act.put, List.setIfInBounds_toArray, List.set_cons_zero, List.set_cons_succ]
                      replace VV : Hid (Wr lo hi (fun b _ => IsHd nr nc ng kr kc kg b) W0 _) := Hid.mk (VV.out.sets gN (k * 7) [Value.bool false, .int .u64 0, .int .u64 0, .int .u64 98, .int .u64 0, .int .u8 0, .int .i64 0] (hgN.out.imp (fun q => ⟨q.1, q.2.1⟩) id) (fun _ _ q => q) (fun o' q => by
                        rcases hgN.out with r | r
                        · exact absurd q (r.2.2 o')
                        · exact absurd q (by have := hnh gN r; exact this)))
                      replace hO := Hid.mk (own_sets hO.out gN (k * 7) [Value.bool false, .int .u64 0, .int .u64 0, .int .u64 98, .int .u64 0, .int .u8 0, .int .i64 0])
                      refine wpList_plain rfl (fun K hK => ?_)
                      refine wp_store_mid _ _ _ rfl _ _ (List.toArray [Value.bool false, .int .u64 0, .int .u64 0, .int .u64 98, .int .u64 0, .int .u8 0, .int .i64 0]) rfl rfl hT.out (by kernel_rfl) (all_oneCell_toArray (by simp [Value.oneCell'])) (hK _ _ ?_)
                      clear hK K hT
                      try simp only [Act.put]
                      generalize World.setCells _ _ _ _ = V9 at *
                      go_wp2_with fail
                      refine ⟨⟨k + 1, ?_, hk, VV, hO⟩, ?_⟩
                      · first | rfl | rw [next_wO hk hq] | go_num
                      · first | exact next_mO hk | (rw [next_wO hk hq]; exact next_mO hk)
                    · have hk1 : ¬ (k : Int) < (nq : Int) := fun q => hk (Int.ofNat_lt.1 q)
                      clear hO
                      go_wp2_with fail
                      refine ⟨⟨i + 1, ?_, hn, VV⟩, ?_⟩
                      · first | rfl | rw [next_wO hn hl2] | go_num
                      · first | exact next_mO hn | (rw [next_wO hn hl2]; exact next_mO hn)
            · have hi1 : ¬ (i : Int) < (ng : Int) := fun q => hn (Int.ofNat_lt.1 q)
              have m2 : wr.cell? ⟨w.heap.size, 2, none⟩ = some (.slice ga ng gc) := (VV.out.at_ BM.out (by omega)).2.1 2
              go_wp2_with fail
              simp [bodyPost, results, Tryd.results10, go_sem]
              exact ⟨W0, G0.out, VV.out⟩
end Q
end Go.Proofs.YtcljibdikhpnlaaDoor
