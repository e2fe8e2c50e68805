import Derived.Test.YtcljibdikhpnlaaDoorMCopy
/-
  Stage 4, image: copies of lists, and of a program.
-/
namespace Go.Proofs.YtcljibdikhpnlaaDoor
open Go.RowKit

theorem wpList_append_el2 {ops : Array Oper} {rest : List Oper} {o : Oper} {a : Act} {Q : Exit → Act → World → Prop} {w : World} (hgd : o.guard = none) (s x : Operand) (t e : TypeId) (z : Value) (size bytes : Nat)
    (ho : o.op = .call { callee := .builtin .append, args := #[s, x], argTypes := #[t, t] }) (ht : Tryd.prog.underlying t = some (.slice e))
    (hi : (Tryd.prog.info? e).map (fun i => (i.zero, i.size, i.bytes)) = some (some z, size, bytes)) (hz : z.cells.size = size) (hsz : 0 < size) (hby : 0 < bytes)
    (base : Nat) (v : Value) (n : Nat) (xs cs : List Value) (hs : a.eval s = v) (hown : w.ownsRow base e size v n xs) (X : Nat) (hx : a.eval x = .slice (some ⟨X, 0, none⟩) 1 1) (hX : At w X cs.toArray) (hc : cs.length = size) (h1 : ∀ u ∈ cs, u.oneCell' = true)
    (hlen : FitB bytes (n + 1)) (hbase : base ≤ w.heap.size)
    (h : ∀ g cap w', w'.ownsRow base e size (.slice (some ⟨g, 0, none⟩) (n + 1) cap) (n + 1) (xs ++ cs) → w.grownBy w' v.ownBlock → wpList Tryd.prog ops Q rest (a.put o.dst (.slice (some ⟨g, 0, none⟩) (n + 1) cap)) w') :
    wpList Tryd.prog ops Q (o :: rest) a w := by
  obtain ⟨i0, hi0, hz0, hz1, hz2⟩ := info_parts hi
  unfold FitB at hlen
  have hb : (n + 1) * bytes ≤ 140737488355328 := hlen
  have hb1 := Nat.le_mul_of_pos_right (n + 1) hby
  refine wpList_append_lies _ hgd s x t ho base e i0 z size bytes ht hi0 hz0 hz1 hz2 hz hsz v n xs hs hown ⟨X, 0, none⟩ 1 1 cs hx (by omega) (news_at hX) h1 (by decide) (by unfold maxLen; omega) hb hbase _ rfl ?_
  intro g cap w' k1 k2 _ _
  exact h g cap w' k1 k2
theorem FitB.le {k m n : Nat} (h : FitB k n) (hm : m ≤ n) : FitB k m := by unfold FitB at *; exact Nat.le_trans (Nat.mul_le_mul_right _ hm) h
set_option maxRecDepth 10000 in
set_option maxHeartbeats 4000000 in
theorem copiedRegion_any (L : List PReg) (a : Option Addr) (c : Nat) (w : World) (h : RegIn w.heap.size w a L) (hr : ∀ r ∈ L, r.data.length ≤ 140737488355328 ∧ FitB 64 r.slots.length) (hl : FitB 56 L.length) :
    Calls Tryd.prog 18 #[.slice a L.length c, .func (.func 19) #[] #[]] w fun x w' => ∃ v, x = .returned v ∧ ∃ css, w'.ownsRow w.heap.size 47 4 v L.length css.flatten ∧ All2 (RegC w.heap.size w') css L ∧ Below w.heap.size w w' := by
  replace h := Hid.mk h
  replace hr := Hid.mk hr
  have hl1 : (L.length : Int) ≤ 140737488355328 := by unfold FitB at hl; omega
  replace hl := Hid.mk hl
  go_enter Tryd.func18, Tryd.ntmps18
  go_wp2_with fail
  go_loopw [5, 10] (fun l i wr => ∃ (j : Nat) (css : List (List Value)), i = .int .i64 j ∧ j ≤ L.length ∧ Hid (wr.ownsRow w.heap.size 47 4 l j css.flatten ∧ All2 (RegC w.heap.size wr) css (L.take j) ∧ Below w.heap.size w wr)) (fun _ i _ => L.length - (intOf i).toNat)
  case atStart => exact ⟨0, [], rfl, by omega, ⟨⟨rfl, .inl ⟨rfl, rfl⟩⟩, trivial, Below.refl _ _⟩⟩
  case round =>
    obtain ⟨j, css, rfl, hj, ⟨hO, hE, hB⟩⟩ := hrel
    obtain ⟨la, lc, rfl⟩ := own_slice hO
    by_cases hlt : j < L.length
    · have jl : (j : Int) < L.length := by omega
      obtain ⟨b, off, sa, sc, rfl, hb, hb2, c0, c1, c2, c3, hs⟩ := (h.out.below hB) j hlt
      have hq := hr.out L[j] (List.getElem_mem hlt)
      have hsn : L.take (j + 1) = L.take j ++ [L[j]] := List.take_succ_eq_append_getElem hlt
      have hG1 : Gr wr (wr.alloc (.cells #[.int .u64 L[j].b, .int .u64 L[j].n, .string (str L[j].data), .slice sa L[j].slots.length sc] 47)) := (Gr.refl wr).alloc _
      have hB1 := hB.trans (hG1.below.mono hB.size)
      have hc := copyRegion_any L[j] sa sc _ ((hs.below (hG1.below.mono hB.size)).mono hB1.size) hq.1 hq.2
      generalize L[j] = r at *
      have hO1 := own_below hO hG1.below
      have hE1 : All2 (RegC w.heap.size _) css (L.take j) := hE.imp fun _ _ q => q.step (grown_of hG1.below none) (nes_none _)
      replace hsn := Hid.mk hsn
      replace hc := Hid.mk hc
      replace hB1 := Hid.mk hB1
      replace hO1 := Hid.mk hO1
      replace hE1 := Hid.mk hE1
      clear hO hE hB hG1
      go_wp2_with fail
      refine hc.out.mono ?_
      rintro z w1 ⟨va, vc, rfl, hn1, hB2⟩
      have hN : RegC w.heap.size w1 [.int .u64 r.b, .int .u64 r.n, .string (str r.data), .slice va r.slots.length vc] r := ⟨va, vc, rfl, own_base hn1 hB1.out.size⟩
      have hO2 := own_below hO1.out hB2
      have hE2 := (hE1.out.imp fun _ _ q => q.step (grown_of hB2 none) (nes_none _)).snoc hN
      have hG3 : Gr w1 (w1.alloc (.cells #[.int .u64 r.b, .int .u64 r.n, .string (str r.data), .slice va r.slots.length vc] 47)) := (Gr.refl w1).alloc _
      have hA : At (w1.alloc (.cells #[.int .u64 r.b, .int .u64 r.n, .string (str r.data), .slice va r.slots.length vc] 47)) w1.heap.size [Value.int .u64 r.b, .int .u64 r.n, .string (str r.data), .slice va r.slots.length vc].toArray := At.new _ _ _
      replace hO2 := Hid.mk (own_below hO2 hG3.below)
      replace hE2 := Hid.mk (hE2.imp fun _ _ q => q.step (grown_of hG3.below none) (nes_none _))
      have hB := Hid.mk ((hB1.out.trans (hB2.mono hB1.out.size)).trans (hG3.below.mono (Nat.le_trans hB1.out.size hB2.size)))
      have hs := Hid.mk hB.out.size
      replace hA := Hid.mk hA
      have hf := Hid.mk (hl.out.le (show j + 1 ≤ L.length by omega))
      clear hG3 hB2 hN hc hO1 hE1 hB1 hn1
      go_wp2_with (at_builtin; refine wpList_append_el2 rfl (.tmp 14) (.tmp 18) 22 47 _ 4 56 rfl Tryd.underlying22 infoRegion rfl (by decide) (by decide) w.heap.size (.slice la j lc) j css.flatten [Value.int .u64 r.b, .int .u64 r.n, .string (str r.data), .slice va r.slots.length vc] rfl hO2.out w1.heap.size rfl hA.out rfl (by simp [Value.oneCell']) hf.out hs.out ?_)
      intro gg cc w5 hrow hgr
      replace hE2 := Hid.mk (hE2.out.imp fun _ _ q => q.step hgr (nes_own hO2.out (by decide) (by decide) (by decide) (by decide)))
      replace hB := Hid.mk (hB.out.trans (Below.of_grown hgr hs.out (fun i hq => (own_block hO2.out i hq).1)))
      replace hrow := Hid.mk hrow
      clear hgr hO2 hs hA
      go_wp2_with fail
      go_roundw
      case rel => exact ⟨j + 1, css ++ [[.int .u64 r.b, .int .u64 r.n, .string (str r.data), .slice va r.slots.length vc]], by simp, by omega, ⟨by rw [flat_snoc2]; exact hrow.out, by rw [hsn.out]; exact hE2.out, hB.out⟩⟩
      case measure => simp [intOf]; omega
    · have jl : ¬ (j : Int) < L.length := by omega
      have hjl : j = L.length := by omega
      subst hjl
      rw [List.take_length] at hE
      replace hO := Hid.mk hO
      replace hE := Hid.mk hE
      replace hB := Hid.mk hB
      go_wp2_with fail
      go_ret
      exact ⟨_, rfl, css, hO.out, hE.out, hB.out⟩
set_option maxRecDepth 10000 in
set_option maxHeartbeats 4000000 in
theorem copiedComp_any (L : List PComp) (a : Option Addr) (c : Nat) (w : World) (h : CompIn w.heap.size w a L) (hr : ∀ r ∈ L, FitB 48 r.roots.length ∧ FitB 40 r.code.length) (hl : FitB 48 L.length) :
    Calls Tryd.prog 20 #[.slice a L.length c, .func (.func 21) #[] #[]] w fun x w' => ∃ v, x = .returned v ∧ ∃ css, w'.ownsRow w.heap.size 52 2 v L.length css.flatten ∧ All2 (CompC w.heap.size w') css L ∧ Below w.heap.size w w' := by
  replace h := Hid.mk h
  replace hr := Hid.mk hr
  have hl1 : (L.length : Int) ≤ 140737488355328 := by unfold FitB at hl; omega
  replace hl := Hid.mk hl
  go_enter Tryd.func20, Tryd.ntmps20
  go_wp2_with fail
  go_loopw [5, 10] (fun l i wr => ∃ (j : Nat) (css : List (List Value)), i = .int .i64 j ∧ j ≤ L.length ∧ Hid (wr.ownsRow w.heap.size 52 2 l j css.flatten ∧ All2 (CompC w.heap.size wr) css (L.take j) ∧ Below w.heap.size w wr)) (fun _ i _ => L.length - (intOf i).toNat)
  case atStart => exact ⟨0, [], rfl, by omega, ⟨⟨rfl, .inl ⟨rfl, rfl⟩⟩, trivial, Below.refl _ _⟩⟩
  case round =>
    obtain ⟨j, css, rfl, hj, ⟨hO, hE, hB⟩⟩ := hrel
    obtain ⟨la, lc, rfl⟩ := own_slice hO
    by_cases hlt : j < L.length
    · have jl : (j : Int) < L.length := by omega
      obtain ⟨b, off, ra, rc, ka, kc, rfl, hb, hb2, c0, c1, hs, hs2⟩ := (h.out.below hB) j hlt
      have hq := hr.out L[j] (List.getElem_mem hlt)
      have hsn : L.take (j + 1) = L.take j ++ [L[j]] := List.take_succ_eq_append_getElem hlt
      have hG1 : Gr wr (wr.alloc (.cells #[.slice ra L[j].roots.length rc, .slice ka L[j].code.length kc] 52)) := (Gr.refl wr).alloc _
      have hB1 := hB.trans (hG1.below.mono hB.size)
      have hc := copyComp_any L[j] ra ka rc kc _ ((hs.below (hG1.below.mono hB.size)).mono hB1.size) ((hs2.below (hG1.below.mono hB.size)).mono hB1.size) hq.1 hq.2
      generalize L[j] = r at *
      have hO1 := own_below hO hG1.below
      have hE1 : All2 (CompC w.heap.size _) css (L.take j) := hE.imp fun _ _ q => q.step (grown_of hG1.below none) (nes_none _)
      replace hsn := Hid.mk hsn
      replace hc := Hid.mk hc
      replace hB1 := Hid.mk hB1
      replace hO1 := Hid.mk hO1
      replace hE1 := Hid.mk hE1
      clear hO hE hB hG1
      go_wp2_with fail
      refine hc.out.mono ?_
      rintro z w1 ⟨va, vc, ua, uc, rfl, hn1, hn2, hB2⟩
      have hN : CompC w.heap.size w1 [.slice va r.roots.length vc, .slice ua r.code.length uc] r := ⟨va, vc, ua, uc, rfl, own_base hn1 hB1.out.size, own_base hn2 hB1.out.size⟩
      have hO2 := own_below hO1.out hB2
      have hE2 := (hE1.out.imp fun _ _ q => q.step (grown_of hB2 none) (nes_none _)).snoc hN
      have hG3 : Gr w1 (w1.alloc (.cells #[.slice va r.roots.length vc, .slice ua r.code.length uc] 52)) := (Gr.refl w1).alloc _
      have hA : At (w1.alloc (.cells #[.slice va r.roots.length vc, .slice ua r.code.length uc] 52)) w1.heap.size [Value.slice va r.roots.length vc, .slice ua r.code.length uc].toArray := At.new _ _ _
      replace hO2 := Hid.mk (own_below hO2 hG3.below)
      replace hE2 := Hid.mk (hE2.imp fun _ _ q => q.step (grown_of hG3.below none) (nes_none _))
      have hB := Hid.mk ((hB1.out.trans (hB2.mono hB1.out.size)).trans (hG3.below.mono (Nat.le_trans hB1.out.size hB2.size)))
      have hs := Hid.mk hB.out.size
      replace hA := Hid.mk hA
      have hf := Hid.mk (hl.out.le (show j + 1 ≤ L.length by omega))
      clear hG3 hB2 hN hc hO1 hE1 hB1 hn1 hn2
      go_wp2_with (at_builtin; refine wpList_append_el2 rfl (.tmp 14) (.tmp 18) 23 52 _ 2 48 rfl Tryd.underlying23 infoComp rfl (by decide) (by decide) w.heap.size (.slice la j lc) j css.flatten [Value.slice va r.roots.length vc, .slice ua r.code.length uc] rfl hO2.out w1.heap.size rfl hA.out rfl (by simp [Value.oneCell']) hf.out hs.out ?_)
      intro gg cc w5 hrow hgr
      replace hE2 := Hid.mk (hE2.out.imp fun _ _ q => q.step hgr (nes_own hO2.out (by decide) (by decide) (by decide) (by decide)))
      replace hB := Hid.mk (hB.out.trans (Below.of_grown hgr hs.out (fun i hq => (own_block hO2.out i hq).1)))
      replace hrow := Hid.mk hrow
      clear hgr hO2 hs hA
      go_wp2_with fail
      go_roundw
      case rel => exact ⟨j + 1, css ++ [[.slice va r.roots.length vc, .slice ua r.code.length uc]], by simp, by omega, ⟨by rw [flat_snoc2]; exact hrow.out, by rw [hsn.out]; exact hE2.out, hB.out⟩⟩
      case measure => simp [intOf]; omega
    · have jl : ¬ (j : Int) < L.length := by omega
      have hjl : j = L.length := by omega
      subst hjl
      rw [List.take_length] at hE
      replace hO := Hid.mk hO
      replace hE := Hid.mk hE
      replace hB := Hid.mk hB
      go_wp2_with fail
      go_ret
      exact ⟨_, rfl, css, hO.out, hE.out, hB.out⟩
set_option maxRecDepth 10000 in
set_option maxHeartbeats 4000000 in
theorem copiedGate_any (L : List PGate) (a : Option Addr) (c : Nat) (w : World) (h : GateIn w.heap.size w a L) (hr : ∀ r ∈ L, FitB 56 r.args.length ∧ FitB 56 r.res.length) (hl : FitB 64 L.length) :
    Calls Tryd.prog 22 #[.slice a L.length c, .func (.func 23) #[] #[]] w fun x w' => ∃ v, x = .returned v ∧ ∃ css, w'.ownsRow w.heap.size 55 4 v L.length css.flatten ∧ All2 (GateC w.heap.size w') css L ∧ Below w.heap.size w w' := by
  replace h := Hid.mk h
  replace hr := Hid.mk hr
  have hl1 : (L.length : Int) ≤ 140737488355328 := by unfold FitB at hl; omega
  replace hl := Hid.mk hl
  go_enter Tryd.func22, Tryd.ntmps22
  go_wp2_with fail
  go_loopw [5, 10] (fun l i wr => ∃ (j : Nat) (css : List (List Value)), i = .int .i64 j ∧ j ≤ L.length ∧ Hid (wr.ownsRow w.heap.size 55 4 l j css.flatten ∧ All2 (GateC w.heap.size wr) css (L.take j) ∧ Below w.heap.size w wr)) (fun _ i _ => L.length - (intOf i).toNat)
  case atStart => exact ⟨0, [], rfl, by omega, ⟨⟨rfl, .inl ⟨rfl, rfl⟩⟩, trivial, Below.refl _ _⟩⟩
  case round =>
    obtain ⟨j, css, rfl, hj, ⟨hO, hE, hB⟩⟩ := hrel
    obtain ⟨la, lc, rfl⟩ := own_slice hO
    by_cases hlt : j < L.length
    · have jl : (j : Int) < L.length := by omega
      obtain ⟨b, off, xa, xc, ya, yc, rfl, hb, hb2, c0, c1, c2, c3, hs, hs2⟩ := (h.out.below hB) j hlt
      have hq := hr.out L[j] (List.getElem_mem hlt)
      have hsn : L.take (j + 1) = L.take j ++ [L[j]] := List.take_succ_eq_append_getElem hlt
      have hG1 : Gr wr (wr.alloc (.cells #[.int .i64 L[j].c, .int .i64 L[j].e, .slice xa L[j].args.length xc, .slice ya L[j].res.length yc] 55)) := (Gr.refl wr).alloc _
      have hB1 := hB.trans (hG1.below.mono hB.size)
      have hc := copyGate_any L[j] xa ya xc yc _ ((hs.below (hG1.below.mono hB.size)).mono hB1.size) ((hs2.below (hG1.below.mono hB.size)).mono hB1.size) hq.1 hq.2
      generalize L[j] = r at *
      have hO1 := own_below hO hG1.below
      have hE1 : All2 (GateC w.heap.size _) css (L.take j) := hE.imp fun _ _ q => q.step (grown_of hG1.below none) (nes_none _)
      replace hsn := Hid.mk hsn
      replace hc := Hid.mk hc
      replace hB1 := Hid.mk hB1
      replace hO1 := Hid.mk hO1
      replace hE1 := Hid.mk hE1
      clear hO hE hB hG1
      go_wp2_with fail
      refine hc.out.mono ?_
      rintro z w1 ⟨va, vc, ua, uc, rfl, hn1, hn2, hB2⟩
      have hN : GateC w.heap.size w1 [.int .i64 r.c, .int .i64 r.e, .slice va r.args.length vc, .slice ua r.res.length uc] r := ⟨va, vc, ua, uc, rfl, own_base hn1 hB1.out.size, own_base hn2 hB1.out.size⟩
      have hO2 := own_below hO1.out hB2
      have hE2 := (hE1.out.imp fun _ _ q => q.step (grown_of hB2 none) (nes_none _)).snoc hN
      have hG3 : Gr w1 (w1.alloc (.cells #[.int .i64 r.c, .int .i64 r.e, .slice va r.args.length vc, .slice ua r.res.length uc] 55)) := (Gr.refl w1).alloc _
      have hA : At (w1.alloc (.cells #[.int .i64 r.c, .int .i64 r.e, .slice va r.args.length vc, .slice ua r.res.length uc] 55)) w1.heap.size [Value.int .i64 r.c, .int .i64 r.e, .slice va r.args.length vc, .slice ua r.res.length uc].toArray := At.new _ _ _
      replace hO2 := Hid.mk (own_below hO2 hG3.below)
      replace hE2 := Hid.mk (hE2.imp fun _ _ q => q.step (grown_of hG3.below none) (nes_none _))
      have hB := Hid.mk ((hB1.out.trans (hB2.mono hB1.out.size)).trans (hG3.below.mono (Nat.le_trans hB1.out.size hB2.size)))
      have hs := Hid.mk hB.out.size
      replace hA := Hid.mk hA
      have hf := Hid.mk (hl.out.le (show j + 1 ≤ L.length by omega))
      clear hG3 hB2 hN hc hO1 hE1 hB1 hn1 hn2
      go_wp2_with (at_builtin; refine wpList_append_el2 rfl (.tmp 14) (.tmp 18) 24 55 _ 4 64 rfl Tryd.underlying24 infoGate rfl (by decide) (by decide) w.heap.size (.slice la j lc) j css.flatten [Value.int .i64 r.c, .int .i64 r.e, .slice va r.args.length vc, .slice ua r.res.length uc] rfl hO2.out w1.heap.size rfl hA.out rfl (by simp [Value.oneCell']) hf.out hs.out ?_)
      intro gg cc w5 hrow hgr
      replace hE2 := Hid.mk (hE2.out.imp fun _ _ q => q.step hgr (nes_own hO2.out (by decide) (by decide) (by decide) (by decide)))
      replace hB := Hid.mk (hB.out.trans (Below.of_grown hgr hs.out (fun i hq => (own_block hO2.out i hq).1)))
      replace hrow := Hid.mk hrow
      clear hgr hO2 hs hA
      go_wp2_with fail
      go_roundw
      case rel => exact ⟨j + 1, css ++ [[.int .i64 r.c, .int .i64 r.e, .slice va r.args.length vc, .slice ua r.res.length uc]], by simp, by omega, ⟨by rw [flat_snoc2]; exact hrow.out, by rw [hsn.out]; exact hE2.out, hB.out⟩⟩
      case measure => simp [intOf]; omega
    · have jl : ¬ (j : Int) < L.length := by omega
      have hjl : j = L.length := by omega
      subst hjl
      rw [List.take_length] at hE
      replace hO := Hid.mk hO
      replace hE := Hid.mk hE
      replace hB := Hid.mk hB
      go_wp2_with fail
      go_ret
      exact ⟨_, rfl, css, hO.out, hE.out, hB.out⟩
end Go.Proofs.YtcljibdikhpnlaaDoor
