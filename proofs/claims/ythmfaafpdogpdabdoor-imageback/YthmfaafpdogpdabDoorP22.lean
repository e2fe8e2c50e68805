import Derived.Test.YthmfaafpdogpdabDoorP21
/-
  Stage 4, image: copies of lists, and of a program.
-/
namespace Go.Proofs.YthmfaafpdogpdabDoor
open Go.RowKit

theorem wpList_append_el2 {ops : Array Oper} {rest : List Oper} {o : Oper} {a : Act} {Q : Exit → Act → World → Prop} {w : World} (hgd : o.guard = none) (s x : Operand) (t e : TypeId) (z : Value) (size bytes : Nat)
    (ho : o.op = .call { callee := .builtin .append, args := #[s, x], argTypes := #[t, t] }) (ht : Tryd.prog.underlying t = some (.slice e))
    (hi : (Tryd.prog.info? e).map (fun i => (i.zero, i.size, i.bytes)) = some (some z, size, bytes)) (hz : z.cells.size = size) (hsz : 0 < size) (hby : bytes ≤ 64)
    (base : Nat) (v : Value) (n : Nat) (xs cs : List Value) (hs : a.eval s = v) (hown : w.ownsRow base e size v n xs) (X : Nat) (hx : a.eval x = .slice (some ⟨X, 0, none⟩) 1 1) (hX : At w X cs.toArray) (hc : cs.length = size) (h1 : ∀ u ∈ cs, u.oneCell' = true)
    (hlen : Fit (n + 1)) (hbase : base ≤ w.heap.size)
    (h : ∀ g cap w', w'.ownsRow base e size (.slice (some ⟨g, 0, none⟩) (n + 1) cap) (n + 1) (xs ++ cs) → w.grownBy w' v.ownBlock → wpList Tryd.prog ops Q rest (a.put o.dst (.slice (some ⟨g, 0, none⟩) (n + 1) cap)) w') :
    wpList Tryd.prog ops Q (o :: rest) a w := by
  obtain ⟨i0, hi0, hz0, hz1, hz2⟩ := info_parts hi
  unfold Fit at hlen
  have hb : (n + 1) * bytes ≤ 140737488355328 := Nat.le_trans (Nat.mul_le_mul_left _ hby) hlen
  refine wpList_append_lies _ hgd s x t ho base e i0 z size bytes ht hi0 hz0 hz1 hz2 hz hsz v n xs hs hown ⟨X, 0, none⟩ 1 1 cs hx (by omega) (news_at hX) h1 (by decide) (by unfold maxLen; omega) hb hbase _ rfl ?_
  intro g cap w' k1 k2 _ _
  exact h g cap w' k1 k2
theorem Fit.le {m n : Nat} (h : Fit n) (hm : m ≤ n) : Fit m := by unfold Fit at *; omega
set_option maxRecDepth 10000 in
set_option maxHeartbeats 4000000 in
theorem copiedRegion_any (L : List PReg) (a : Option Addr) (c : Nat) (w : World) (h : RegIn w.heap.size w a L) (hr : ∀ r ∈ L, r.data.length ≤ 140737488355328 ∧ Fit r.slots.length) (hl : Fit L.length) :
    Calls Tryd.prog 35 #[.slice a L.length c, .func (.func 36) #[] #[]] w fun x w' => ∃ v, x = .returned v ∧ ∃ css, w'.ownsRow w.heap.size 58 4 v L.length css.flatten ∧ All2 (RegC w.heap.size w') css L ∧ Below w.heap.size w w' := by
  replace h := Hid.mk h
  replace hr := Hid.mk hr
  have hl1 : (L.length : Int) ≤ 140737488355328 := by unfold Fit at hl; omega
  replace hl := Hid.mk hl
  go_enter Tryd.func35, Tryd.ntmps35
  go_wp2_with fail
  go_loopw [5, 10] (fun l i wr => ∃ (j : Nat) (css : List (List Value)), i = .int .i64 j ∧ j ≤ L.length ∧ Hid (wr.ownsRow w.heap.size 58 4 l j css.flatten ∧ All2 (RegC w.heap.size wr) css (L.take j) ∧ Below w.heap.size w wr)) (fun _ i _ => L.length - (intOf i).toNat)
  case atStart => exact ⟨0, [], rfl, by omega, ⟨⟨rfl, .inl ⟨rfl, rfl⟩⟩, trivial, Below.refl _ _⟩⟩
  case round =>
    obtain ⟨j, css, rfl, hj, ⟨hO, hE, hB⟩⟩ := hrel
    obtain ⟨la, lc, rfl⟩ := own_slice hO
    by_cases hlt : j < L.length
    · have jl : (j : Int) < L.length := by omega
      obtain ⟨b, off, sa, sc, rfl, hb, hb2, c0, c1, c2, c3, hs⟩ := (h.out.below hB) j hlt
      have hq := hr.out L[j] (List.getElem_mem hlt)
      have hsn : L.take (j + 1) = L.take j ++ [L[j]] := List.take_succ_eq_append_getElem hlt
      have hG1 : Gr wr (wr.alloc (.cells #[.int .u64 L[j].b, .int .u64 L[j].n, .string (str L[j].data), .slice sa L[j].slots.length sc] 58)) := (Gr.refl wr).alloc _
      have hB1 := hB.trans (hG1.below.mono hB.size)
      have hc := copyRegion_any L[j] sa sc _ ((hs.below (hG1.below.mono hB.size)).mono hB1.size) hq.1 hq.2
      generalize L[j] = r at *
      have hO1 := own_below hO hG1.below
      have hE1 : All2 (RegC w.heap.size _) css (L.take j) := hE.imp fun _ _ q => q.step (grown_of hG1.below none) (nes_none _)
      replace hsn := Hid.mk hsn
      replace hc := Hid.mk hc
      replace hB1 := Hid.mk hB1
      replace hO1 := Hid.mk hO1
      replace hE1 := Hid.mk hE1
      clear hO hE hB hG1
      go_wp2_with fail
      refine hc.out.mono ?_
      rintro z w1 ⟨va, vc, rfl, hn1, hB2⟩
      have hN : RegC w.heap.size w1 [.int .u64 r.b, .int .u64 r.n, .string (str r.data), .slice va r.slots.length vc] r := ⟨va, vc, rfl, own_base hn1 hB1.out.size⟩
      have hO2 := own_below hO1.out hB2
      have hE2 := (hE1.out.imp fun _ _ q => q.step (grown_of hB2 none) (nes_none _)).snoc hN
      have hG3 : Gr w1 (w1.alloc (.cells #[.int .u64 r.b, .int .u64 r.n, .string (str r.data), .slice va r.slots.length vc] 58)) := (Gr.refl w1).alloc _
      have hA : At (w1.alloc (.cells #[.int .u64 r.b, .int .u64 r.n, .string (str r.data), .slice va r.slots.length vc] 58)) w1.heap.size [Value.int .u64 r.b, .int .u64 r.n, .string (str r.data), .slice va r.slots.length vc].toArray := At.new _ _ _
      replace hO2 := Hid.mk (own_below hO2 hG3.below)
      replace hE2 := Hid.mk (hE2.imp fun _ _ q => q.step (grown_of hG3.below none) (nes_none _))
      have hB := Hid.mk ((hB1.out.trans (hB2.mono hB1.out.size)).trans (hG3.below.mono (Nat.le_trans hB1.out.size hB2.size)))
      have hs := Hid.mk hB.out.size
      replace hA := Hid.mk hA
      have hf := Hid.mk (hl.out.le (show j + 1 ≤ L.length by omega))
      clear hG3 hB2 hN hc hO1 hE1 hB1 hn1
      go_wp2_with (at_builtin; refine wpList_append_el2 rfl (.tmp 14) (.tmp 18) 22 58 _ 4 56 rfl Tryd.underlying22 infoRegion rfl (by decide) (by decide) w.heap.size (.slice la j lc) j css.flatten [Value.int .u64 r.b, .int .u64 r.n, .string (str r.data), .slice va r.slots.length vc] rfl hO2.out w1.heap.size rfl hA.out rfl (by simp [Value.oneCell']) hf.out hs.out ?_)
      intro gg cc w5 hrow hgr
      replace hE2 := Hid.mk (hE2.out.imp fun _ _ q => q.step hgr (nes_own hO2.out (by decide) (by decide) (by decide) (by decide)))
      replace hB := Hid.mk (hB.out.trans (Below.of_grown hgr hs.out (fun i hq => (own_block hO2.out i hq).1)))
      replace hrow := Hid.mk hrow
      clear hgr hO2 hs hA
      go_wp2_with fail
      go_roundw
      case rel => exact ⟨j + 1, css ++ [[.int .u64 r.b, .int .u64 r.n, .string (str r.data), .slice va r.slots.length vc]], by simp, by omega, ⟨by rw [flat_snoc2]; exact hrow.out, by rw [hsn.out]; exact hE2.out, hB.out⟩⟩
      case measure => simp [intOf]; omega
    · have jl : ¬ (j : Int) < L.length := by omega
      have hjl : j = L.length := by omega
      subst hjl
      rw [List.take_length] at hE
      replace hO := Hid.mk hO
      replace hE := Hid.mk hE
      replace hB := Hid.mk hB
      go_wp2_with fail
      go_ret
      exact ⟨_, rfl, css, hO.out, hE.out, hB.out⟩
set_option maxRecDepth 10000 in
set_option maxHeartbeats 4000000 in
theorem copiedComp_any (L : List PComp) (a : Option Addr) (c : Nat) (w : World) (h : CompIn w.heap.size w a L) (hr : ∀ r ∈ L, Fit r.roots.length ∧ Fit r.code.length) (hl : Fit L.length) :
    Calls Tryd.prog 37 #[.slice a L.length c, .func (.func 38) #[] #[]] w fun x w' => ∃ v, x = .returned v ∧ ∃ css, w'.ownsRow w.heap.size 63 2 v L.length css.flatten ∧ All2 (CompC w.heap.size w') css L ∧ Below w.heap.size w w' := by
  replace h := Hid.mk h
  replace hr := Hid.mk hr
  have hl1 : (L.length : Int) ≤ 140737488355328 := by unfold Fit at hl; omega
  replace hl := Hid.mk hl
  go_enter Tryd.func37, Tryd.ntmps37
  go_wp2_with fail
  go_loopw [5, 10] (fun l i wr => ∃ (j : Nat) (css : List (List Value)), i = .int .i64 j ∧ j ≤ L.length ∧ Hid (wr.ownsRow w.heap.size 63 2 l j css.flatten ∧ All2 (CompC w.heap.size wr) css (L.take j) ∧ Below w.heap.size w wr)) (fun _ i _ => L.length - (intOf i).toNat)
  case atStart => exact ⟨0, [], rfl, by omega, ⟨⟨rfl, .inl ⟨rfl, rfl⟩⟩, trivial, Below.refl _ _⟩⟩
  case round =>
    obtain ⟨j, css, rfl, hj, ⟨hO, hE, hB⟩⟩ := hrel
    obtain ⟨la, lc, rfl⟩ := own_slice hO
    by_cases hlt : j < L.length
    · have jl : (j : Int) < L.length := by omega
      obtain ⟨b, off, ra, rc, ka, kc, rfl, hb, hb2, c0, c1, hs, hs2⟩ := (h.out.below hB) j hlt
      have hq := hr.out L[j] (List.getElem_mem hlt)
      have hsn : L.take (j + 1) = L.take j ++ [L[j]] := List.take_succ_eq_append_getElem hlt
      have hG1 : Gr wr (wr.alloc (.cells #[.slice ra L[j].roots.length rc, .slice ka L[j].code.length kc] 63)) := (Gr.refl wr).alloc _
      have hB1 := hB.trans (hG1.below.mono hB.size)
      have hc := copyComp_any L[j] ra ka rc kc _ ((hs.below (hG1.below.mono hB.size)).mono hB1.size) ((hs2.below (hG1.below.mono hB.size)).mono hB1.size) hq.1 hq.2
      generalize L[j] = r at *
      have hO1 := own_below hO hG1.below
      have hE1 : All2 (CompC w.heap.size _) css (L.take j) := hE.imp fun _ _ q => q.step (grown_of hG1.below none) (nes_none _)
      replace hsn := Hid.mk hsn
      replace hc := Hid.mk hc
      replace hB1 := Hid.mk hB1
      replace hO1 := Hid.mk hO1
      replace hE1 := Hid.mk hE1
      clear hO hE hB hG1
      go_wp2_with fail
      refine hc.out.mono ?_
      rintro z w1 ⟨va, vc, ua, uc, rfl, hn1, hn2, hB2⟩
      have hN : CompC w.heap.size w1 [.slice va r.roots.length vc, .slice ua r.code.length uc] r := ⟨va, vc, ua, uc, rfl, own_base hn1 hB1.out.size, own_base hn2 hB1.out.size⟩
      have hO2 := own_below hO1.out hB2
      have hE2 := (hE1.out.imp fun _ _ q => q.step (grown_of hB2 none) (nes_none _)).snoc hN
      have hG3 : Gr w1 (w1.alloc (.cells #[.slice va r.roots.length vc, .slice ua r.code.length uc] 63)) := (Gr.refl w1).alloc _
      have hA : At (w1.alloc (.cells #[.slice va r.roots.length vc, .slice ua r.code.length uc] 63)) w1.heap.size [Value.slice va r.roots.length vc, .slice ua r.code.length uc].toArray := At.new _ _ _
      replace hO2 := Hid.mk (own_below hO2 hG3.below)
      replace hE2 := Hid.mk (hE2.imp fun _ _ q => q.step (grown_of hG3.below none) (nes_none _))
      have hB := Hid.mk ((hB1.out.trans (hB2.mono hB1.out.size)).trans (hG3.below.mono (Nat.le_trans hB1.out.size hB2.size)))
      have hs := Hid.mk hB.out.size
      replace hA := Hid.mk hA
      have hf := Hid.mk (hl.out.le (show j + 1 ≤ L.length by omega))
      clear hG3 hB2 hN hc hO1 hE1 hB1 hn1 hn2
      go_wp2_with (at_builtin; refine wpList_append_el2 rfl (.tmp 14) (.tmp 18) 23 63 _ 2 48 rfl Tryd.underlying23 infoComp rfl (by decide) (by decide) w.heap.size (.slice la j lc) j css.flatten [Value.slice va r.roots.length vc, .slice ua r.code.length uc] rfl hO2.out w1.heap.size rfl hA.out rfl (by simp [Value.oneCell']) hf.out hs.out ?_)
      intro gg cc w5 hrow hgr
      replace hE2 := Hid.mk (hE2.out.imp fun _ _ q => q.step hgr (nes_own hO2.out (by decide) (by decide) (by decide) (by decide)))
      replace hB := Hid.mk (hB.out.trans (Below.of_grown hgr hs.out (fun i hq => (own_block hO2.out i hq).1)))
      replace hrow := Hid.mk hrow
      clear hgr hO2 hs hA
      go_wp2_with fail
      go_roundw
      case rel => exact ⟨j + 1, css ++ [[.slice va r.roots.length vc, .slice ua r.code.length uc]], by simp, by omega, ⟨by rw [flat_snoc2]; exact hrow.out, by rw [hsn.out]; exact hE2.out, hB.out⟩⟩
      case measure => simp [intOf]; omega
    · have jl : ¬ (j : Int) < L.length := by omega
      have hjl : j = L.length := by omega
      subst hjl
      rw [List.take_length] at hE
      replace hO := Hid.mk hO
      replace hE := Hid.mk hE
      replace hB := Hid.mk hB
      go_wp2_with fail
      go_ret
      exact ⟨_, rfl, css, hO.out, hE.out, hB.out⟩
set_option maxRecDepth 10000 in
set_option maxHeartbeats 4000000 in
theorem copiedGate_any (L : List PGate) (a : Option Addr) (c : Nat) (w : World) (h : GateIn w.heap.size w a L) (hr : ∀ r ∈ L, Fit r.args.length ∧ Fit r.res.length) (hl : Fit L.length) :
    Calls Tryd.prog 39 #[.slice a L.length c, .func (.func 40) #[] #[]] w fun x w' => ∃ v, x = .returned v ∧ ∃ css, w'.ownsRow w.heap.size 66 4 v L.length css.flatten ∧ All2 (GateC w.heap.size w') css L ∧ Below w.heap.size w w' := by
  replace h := Hid.mk h
  replace hr := Hid.mk hr
  have hl1 : (L.length : Int) ≤ 140737488355328 := by unfold Fit at hl; omega
  replace hl := Hid.mk hl
  go_enter Tryd.func39, Tryd.ntmps39
  go_wp2_with fail
  go_loopw [5, 10] (fun l i wr => ∃ (j : Nat) (css : List (List Value)), i = .int .i64 j ∧ j ≤ L.length ∧ Hid (wr.ownsRow w.heap.size 66 4 l j css.flatten ∧ All2 (GateC w.heap.size wr) css (L.take j) ∧ Below w.heap.size w wr)) (fun _ i _ => L.length - (intOf i).toNat)
  case atStart => exact ⟨0, [], rfl, by omega, ⟨⟨rfl, .inl ⟨rfl, rfl⟩⟩, trivial, Below.refl _ _⟩⟩
  case round =>
    obtain ⟨j, css, rfl, hj, ⟨hO, hE, hB⟩⟩ := hrel
    obtain ⟨la, lc, rfl⟩ := own_slice hO
    by_cases hlt : j < L.length
    · have jl : (j : Int) < L.length := by omega
      obtain ⟨b, off, xa, xc, ya, yc, rfl, hb, hb2, c0, c1, c2, c3, hs, hs2⟩ := (h.out.below hB) j hlt
      have hq := hr.out L[j] (List.getElem_mem hlt)
      have hsn : L.take (j + 1) = L.take j ++ [L[j]] := List.take_succ_eq_append_getElem hlt
      have hG1 : Gr wr (wr.alloc (.cells #[.int .i64 L[j].c, .int .i64 L[j].e, .slice xa L[j].args.length xc, .slice ya L[j].res.length yc] 66)) := (Gr.refl wr).alloc _
      have hB1 := hB.trans (hG1.below.mono hB.size)
      have hc := copyGate_any L[j] xa ya xc yc _ ((hs.below (hG1.below.mono hB.size)).mono hB1.size) ((hs2.below (hG1.below.mono hB.size)).mono hB1.size) hq.1 hq.2
      generalize L[j] = r at *
      have hO1 := own_below hO hG1.below
      have hE1 : All2 (GateC w.heap.size _) css (L.take j) := hE.imp fun _ _ q => q.step (grown_of hG1.below none) (nes_none _)
      replace hsn := Hid.mk hsn
      replace hc := Hid.mk hc
      replace hB1 := Hid.mk hB1
      replace hO1 := Hid.mk hO1
      replace hE1 := Hid.mk hE1
      clear hO hE hB hG1
      go_wp2_with fail
      refine hc.out.mono ?_
      rintro z w1 ⟨va, vc, ua, uc, rfl, hn1, hn2, hB2⟩
      have hN : GateC w.heap.size w1 [.int .i64 r.c, .int .i64 r.e, .slice va r.args.length vc, .slice ua r.res.length uc] r := ⟨va, vc, ua, uc, rfl, own_base hn1 hB1.out.size, own_base hn2 hB1.out.size⟩
      have hO2 := own_below hO1.out hB2
      have hE2 := (hE1.out.imp fun _ _ q => q.step (grown_of hB2 none) (nes_none _)).snoc hN
      have hG3 : Gr w1 (w1.alloc (.cells #[.int .i64 r.c, .int .i64 r.e, .slice va r.args.length vc, .slice ua r.res.length uc] 66)) := (Gr.refl w1).alloc _
      have hA : At (w1.alloc (.cells #[.int .i64 r.c, .int .i64 r.e, .slice va r.args.length vc, .slice ua r.res.length uc] 66)) w1.heap.size [Value.int .i64 r.c, .int .i64 r.e, .slice va r.args.length vc, .slice ua r.res.length uc].toArray := At.new _ _ _
      replace hO2 := Hid.mk (own_below hO2 hG3.below)
      replace hE2 := Hid.mk (hE2.imp fun _ _ q => q.step (grown_of hG3.below none) (nes_none _))
      have hB := Hid.mk ((hB1.out.trans (hB2.mono hB1.out.size)).trans (hG3.below.mono (Nat.le_trans hB1.out.size hB2.size)))
      have hs := Hid.mk hB.out.size
      replace hA := Hid.mk hA
      have hf := Hid.mk (hl.out.le (show j + 1 ≤ L.length by omega))
      clear hG3 hB2 hN hc hO1 hE1 hB1 hn1 hn2
      go_wp2_with (at_builtin; refine wpList_append_el2 rfl (.tmp 14) (.tmp 18) 24 66 _ 4 64 rfl Tryd.underlying24 infoGate rfl (by decide) (by decide) w.heap.size (.slice la j lc) j css.flatten [Value.int .i64 r.c, .int .i64 r.e, .slice va r.args.length vc, .slice ua r.res.length uc] rfl hO2.out w1.heap.size rfl hA.out rfl (by simp [Value.oneCell']) hf.out hs.out ?_)
      intro gg cc w5 hrow hgr
      replace hE2 := Hid.mk (hE2.out.imp fun _ _ q => q.step hgr (nes_own hO2.out (by decide) (by decide) (by decide) (by decide)))
      replace hB := Hid.mk (hB.out.trans (Below.of_grown hgr hs.out (fun i hq => (own_block hO2.out i hq).1)))
      replace hrow := Hid.mk hrow
      clear hgr hO2 hs hA
      go_wp2_with fail
      go_roundw
      case rel => exact ⟨j + 1, css ++ [[.int .i64 r.c, .int .i64 r.e, .slice va r.args.length vc, .slice ua r.res.length uc]], by simp, by omega, ⟨by rw [flat_snoc2]; exact hrow.out, by rw [hsn.out]; exact hE2.out, hB.out⟩⟩
      case measure => simp [intOf]; omega
    · have jl : ¬ (j : Int) < L.length := by omega
      have hjl : j = L.length := by omega
      subst hjl
      rw [List.take_length] at hE
      replace hO := Hid.mk hO
      replace hE := Hid.mk hE
      replace hB := Hid.mk hB
      go_wp2_with fail
      go_ret
      exact ⟨_, rfl, css, hO.out, hE.out, hB.out⟩
end Go.Proofs.YthmfaafpdogpdabDoor


/-
  Stage 4, image: Copy of a program.
-/
namespace Go.Proofs.YthmfaafpdogpdabDoor
open Go.RowKit

/-- A program whose lists memory can hold twice. -/
structure PImg.Fits (m : PImg) : Prop where
  regs : Fit m.regs.length ∧ ∀ r ∈ m.regs, r.data.length ≤ 140737488355328 ∧ Fit r.slots.length
  comps : Fit m.comps.length ∧ ∀ r ∈ m.comps, Fit r.roots.length ∧ Fit r.code.length
  gates : Fit m.gates.length ∧ ∀ r ∈ m.gates, Fit r.args.length ∧ Fit r.res.length
theorem step_below2 {B : Nat} {R W w1 : World} (h : Below B R W) (hB : B ≤ R.heap.size) (hg : Below W.heap.size W w1) : Below B R w1 := h.trans (hg.mono (Nat.le_trans hB h.size))
set_option maxRecDepth 10000 in
set_option maxHeartbeats 8000000 in
theorem Copy_any (m : PImg) (ra ca ga : Option Addr) (rc cc gc : Nat) (w : World) (hm : ImgIn w.heap.size w ra ca ga m) (hf : m.Fits) :
    Calls Tryd.prog 13 #[.agg #[.slice ra m.regs.length rc, .slice ca m.comps.length cc, .slice ga m.gates.length gc, .int .i64 m.depth]] w fun x w' => ∃ ra2 rc2 ca2 cc2 ga2 gc2, x = .returned (.agg #[.slice ra2 m.regs.length rc2, .slice ca2 m.comps.length cc2, .slice ga2 m.gates.length gc2, .int .i64 m.depth]) ∧ ImgOwn w.heap.size w' (.slice ra2 m.regs.length rc2) (.slice ca2 m.comps.length cc2) (.slice ga2 m.gates.length gc2) m ∧ Below w.heap.size w w' := by
  have hC1 := fun W h1 => copiedRegion_any m.regs ra rc W h1 hf.regs.2 hf.regs.1
  have hC2 := fun W h1 => copiedComp_any m.comps ca cc W h1 hf.comps.2 hf.comps.1
  have hC3 := fun W h1 => copiedGate_any m.gates ga gc W h1 hf.gates.2 hf.gates.1
  have hB : Below w.heap.size w ((w.alloc (.cells #[.slice ra m.regs.length rc, .slice ca m.comps.length cc, .slice ga m.gates.length gc, .int .i64 m.depth] 26)).alloc (.cells #[.slice none 0 0, .slice none 0 0, .slice none 0 0, .int .i64 0] 26)) := (((Gr.refl w).alloc _).alloc _).below
  have RB : Box ((w.alloc (.cells #[.slice ra m.regs.length rc, .slice ca m.comps.length cc, .slice ga m.gates.length gc, .int .i64 m.depth] 26)).alloc (.cells #[.slice none 0 0, .slice none 0 0, .slice none 0 0, .int .i64 0] 26)) w.heap.size #[.slice ra m.regs.length rc, .slice ca m.comps.length cc, .slice ga m.gates.length gc, .int .i64 m.depth] 26 := (Box.new w _ _).alloc _
  have X : Box ((w.alloc (.cells #[.slice ra m.regs.length rc, .slice ca m.comps.length cc, .slice ga m.gates.length gc, .int .i64 m.depth] 26)).alloc (.cells #[.slice none 0 0, .slice none 0 0, .slice none 0 0, .int .i64 0] 26)) (w.heap.size + 1) #[.slice none 0 0, .slice none 0 0, .slice none 0 0, .int .i64 0] 26 := Box.next _ _ _ _
  replace hm := Hid.mk hm
  replace hB := Hid.mk hB
  replace RB := Hid.mk RB
  replace X := Hid.mk X
  clear hf
  go_enter Tryd.func13, Tryd.ntmps13
  go_wp2_with fail
  generalize (w.alloc (.cells #[.slice ra m.regs.length rc, .slice ca m.comps.length cc, .slice ga m.gates.length gc, .int .i64 m.depth] 26)).alloc (.cells #[.slice none 0 0, .slice none 0 0, .slice none 0 0, .int .i64 0] 26) = R0 at *
  have hn1 : w.heap.size + 1 ≤ R0.heap.size := Nat.le_of_lt X.out.lt
  have KS : ∀ W, Below (w.heap.size + 1) R0 W → W.cell? ⟨w.heap.size, 0, none⟩ = some (.slice ra m.regs.length rc) ∧ W.cell? ⟨w.heap.size, 1, none⟩ = some (.slice ca m.comps.length cc) ∧ W.cell? ⟨w.heap.size, 2, none⟩ = some (.slice ga m.gates.length gc) ∧ W.cell? ⟨w.heap.size, 3, none⟩ = some (.int .i64 m.depth) := fun W hW => ⟨(hW.cell (p := ⟨w.heap.size, 0, none⟩) (Nat.lt_succ_self _)).trans (RB.out.at.2.1 0), (hW.cell (p := ⟨w.heap.size, 1, none⟩) (Nat.lt_succ_self _)).trans (RB.out.at.2.1 1), (hW.cell (p := ⟨w.heap.size, 2, none⟩) (Nat.lt_succ_self _)).trans (RB.out.at.2.1 2), (hW.cell (p := ⟨w.heap.size, 3, none⟩) (Nat.lt_succ_self _)).trans (RB.out.at.2.1 3)⟩
  have hI : ∀ W, Below (w.heap.size + 1) R0 W → ImgIn W.heap.size W ra ca ga m := fun W hW => (hm.out.below (hB.out.trans (hW.mono (Nat.le_succ _)))).mono (Nat.le_trans hB.out.size hW.size)
  have hI1 := Hid.mk (fun W h => (hI W h).regs)
  have hI2 := Hid.mk (fun W h => (hI W h).comps)
  have hI3 := Hid.mk (fun W h => (hI W h).gates)
  replace KS := Hid.mk KS
  clear hI
  (go_region_held3 (fun W => W.cell? ⟨w.heap.size, 0, none⟩ = some (.slice ra m.regs.length rc) ∧ W.cell? ⟨w.heap.size, 1, none⟩ = some (.slice ca m.comps.length cc) ∧ W.cell? ⟨w.heap.size, 2, none⟩ = some (.slice ga m.gates.length gc) ∧ W.cell? ⟨w.heap.size, 3, none⟩ = some (.int .i64 m.depth)) (first | (refine KS.out _ ?_; ((repeat (first | assumption | with_reducible exact Below.refl _ _ | with_reducible refine Below.drew ?_))); done) | exact KS.out _ (Below.setCell (p := ⟨w.heap.size + 1, 3, none⟩) (Below.setCell (p := ⟨w.heap.size + 1, 2, none⟩) (Below.setCell (p := ⟨w.heap.size + 1, 1, none⟩) (Below.setCell (p := ⟨w.heap.size + 1, 0, none⟩) (by assumption) (Nat.le_refl _) _) (Nat.le_refl _) _) (Nat.le_refl _) _) (Nat.le_refl _) _) | exact KS.out _ (Below.drew (Below.setCell (p := ⟨w.heap.size + 1, 3, none⟩) (Below.setCell (p := ⟨w.heap.size + 1, 2, none⟩) (Below.setCell (p := ⟨w.heap.size + 1, 1, none⟩) (Below.setCell (p := ⟨w.heap.size + 1, 0, none⟩) (by assumption) (Nat.le_refl _) _) (Nat.le_refl _) _) (Nat.le_refl _) _) (Nat.le_refl _) _))) (first | (go_at_call 35; refine (hC1 _ (hI1.out _ (by ((repeat (first | assumption | with_reducible exact Below.refl _ _ | with_reducible refine Below.drew ?_)))))).mono ?_; rintro x w1 ⟨v, rfl, s1, hO1, hE1, hb1⟩; obtain ⟨ra2, rc2, rfl⟩ := own_slice hO1; have d1 : Below R0.heap.size R0 w1 := step_below2 (by ((repeat (first | assumption | with_reducible exact Below.refl _ _ | with_reducible refine Below.drew ?_)))) (Nat.le_refl _) hb1; have b1 : Below (w.heap.size + 1) R0 w1 := d1.mono hn1) | (go_at_call 37; refine (hC2 _ (hI2.out _ (by ((repeat (first | assumption | with_reducible exact Below.refl _ _ | with_reducible refine Below.drew ?_)))))).mono ?_; rintro x w2 ⟨v, rfl, s2, hO2, hE2, hb2⟩; obtain ⟨ca2, cc2, rfl⟩ := own_slice hO2; have d2 : Below R0.heap.size R0 w2 := step_below2 (by ((repeat (first | assumption | with_reducible exact Below.refl _ _ | with_reducible refine Below.drew ?_)))) (Nat.le_refl _) hb2; have b2 : Below (w.heap.size + 1) R0 w2 := d2.mono hn1) | (go_at_call 39; refine (hC3 _ (hI3.out _ (by ((repeat (first | assumption | with_reducible exact Below.refl _ _ | with_reducible refine Below.drew ?_)))))).mono ?_; rintro x w3 ⟨v, rfl, s3, hO3, hE3, hb3⟩; obtain ⟨ga2, gc2, rfl⟩ := own_slice hO3; have d3 : Below R0.heap.size R0 w3 := step_below2 (by ((repeat (first | assumption | with_reducible exact Below.refl _ _ | with_reducible refine Below.drew ?_)))) (Nat.le_refl _) hb3; have b3 : Below (w.heap.size + 1) R0 w3 := d3.mono hn1; have ⟨z1, p1, f1⟩ := (X.out.below d3 X.out.lt).at)))
  all_goals
    go_wp2_with fail
    have X2 := X.out.below d3 X.out.lt
    have g2 := grown_of hb2 none
    have g3 := grown_of hb3 none
    have e1 : w.heap.size ≤ w1.heap.size := Nat.le_trans hB.out.size d1.size
    have e2 : w.heap.size ≤ w2.heap.size := Nat.le_trans hB.out.size d2.size
    have hm1 : ImgOwn w.heap.size w3 (.slice ra2 m.regs.length rc2) (.slice ca2 m.comps.length cc2) (.slice ga2 m.gates.length gc2) m :=
      ⟨⟨s1, own_base (own_below (own_below hO1 hb2) hb3) hB.out.size, ((hE1.imp fun _ _ q => q.step g2 (nes_none _)).imp fun _ _ q => q.step g3 (nes_none _)).imp fun _ _ q => q.base hB.out.size⟩,
       ⟨s2, own_base (own_below hO2 hb3) e1, (hE2.imp fun _ _ q => q.step g3 (nes_none _)).imp fun _ _ q => q.base e1⟩,
       ⟨s3, own_base hO3 e2, hE3.imp fun _ _ q => q.base e2⟩⟩
    have B2 := hB.out.trans (d3.mono hB.out.size)
    have b4 : Box (((((w3).setCell ⟨(w.heap.size + 1), 0, none⟩ (.slice ra2 m.regs.length rc2)).setCell ⟨(w.heap.size + 1), 1, none⟩ (.slice ca2 m.comps.length cc2)).setCell ⟨(w.heap.size + 1), 2, none⟩ (.slice ga2 m.gates.length gc2)).setCell ⟨(w.heap.size + 1), 3, none⟩ (.int .i64 m.depth)) (w.heap.size + 1) #[.slice ra2 m.regs.length rc2, .slice ca2 m.comps.length cc2, .slice ga2 m.gates.length gc2, .int .i64 m.depth] 26 := Box.setRow X2 [.slice ra2 m.regs.length rc2, .slice ca2 m.comps.length cc2, .slice ga2 m.gates.length gc2, .int .i64 m.depth] rfl
    have B4 : Below w.heap.size w (((((w3).setCell ⟨(w.heap.size + 1), 0, none⟩ (.slice ra2 m.regs.length rc2)).setCell ⟨(w.heap.size + 1), 1, none⟩ (.slice ca2 m.comps.length cc2)).setCell ⟨(w.heap.size + 1), 2, none⟩ (.slice ga2 m.gates.length gc2)).setCell ⟨(w.heap.size + 1), 3, none⟩ (.int .i64 m.depth)) := below_row [.slice ra2 m.regs.length rc2, .slice ca2 m.comps.length cc2, .slice ga2 m.gates.length gc2, .int .i64 m.depth] B2 (by omega)
    have O4 : ImgOwn w.heap.size (((((w3).setCell ⟨(w.heap.size + 1), 0, none⟩ (.slice ra2 m.regs.length rc2)).setCell ⟨(w.heap.size + 1), 1, none⟩ (.slice ca2 m.comps.length cc2)).setCell ⟨(w.heap.size + 1), 2, none⟩ (.slice ga2 m.gates.length gc2)).setCell ⟨(w.heap.size + 1), 3, none⟩ (.int .i64 m.depth)) (.slice ra2 m.regs.length rc2) (.slice ca2 m.comps.length cc2) (.slice ga2 m.gates.length gc2) m := ImgOwn.row (by decide) [.slice ra2 m.regs.length rc2, .slice ca2 m.comps.length cc2, .slice ga2 m.gates.length gc2, .int .i64 m.depth] hm1 X2
    have ⟨_, q4, _⟩ := b4.at
    clear z1 p1 f1 RB X hB b4 X2 hm1 B2
    generalize ((((w3).setCell ⟨(w.heap.size + 1), 0, none⟩ (.slice ra2 m.regs.length rc2)).setCell ⟨(w.heap.size + 1), 1, none⟩ (.slice ca2 m.comps.length cc2)).setCell ⟨(w.heap.size + 1), 2, none⟩ (.slice ga2 m.gates.length gc2)).setCell ⟨(w.heap.size + 1), 3, none⟩ (.int .i64 m.depth) = W4 at *
    simp [bodyPost, results, Tryd.results13, go_sem, q4]
    exact ⟨ra2, rc2, ca2, cc2, ga2, gc2, ⟨⟨rfl, rfl⟩, ⟨rfl, rfl⟩, rfl, rfl⟩, O4, B4⟩
end Go.Proofs.YthmfaafpdogpdabDoor
