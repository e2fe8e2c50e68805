import Derived.Test.YthmlkcglglcljaaGreatDoorJ28
import Derived.Test.YthmlkcglglcljaaGreatDoorJ27
import Derived.Deep.AppendLies
namespace Go.Proofs.YthmlkcglglcljaaGreatDoor
set_option maxRecDepth 100000
set_option maxHeartbeats 40000000
open Go.RowKit

theorem wpList_append_el2 {ops : Array Oper} {rest : List Oper} {o : Oper} {a : Act} {Q : Exit → Act → World → Prop} {w : World} (hgd : o.guard = none) (s x : Operand) (t e : TypeId) (z : Value) (size bytes : Nat)
   (ho : o.op = .call { callee := .builtin .append, args := #[s, x], argTypes := #[t, t] }) (ht : Tryz.prog.underlying t = some (.slice e))
   (hi : (Tryz.prog.info? e).map (fun i => (i.zero, i.size, i.bytes)) = some (some z, size, bytes)) (hz : z.cells.size = size) (hsz : 0 < size) (hby : 0 < bytes)
   (base : Nat) (v : Value) (n : Nat) (xs cs : List Value) (hs : a.eval s = v) (hown : w.ownsRow base e size v n xs) (X : Nat) (hx : a.eval x = .slice (some ⟨X, 0, none⟩) 1 1) (hX : At w X cs.toArray) (hc : cs.length = size) (h1 : ∀ u ∈ cs, u.oneCell' = true)
   (hlen : FitB bytes (n + 1)) (hbase : base ≤ w.heap.size)
   (h : ∀ g cap w', w'.ownsRow base e size (.slice (some ⟨g, 0, none⟩) (n + 1) cap) (n + 1) (xs ++ cs) → w.grownBy w' v.ownBlock → wpList Tryz.prog ops Q rest (a.put o.dst (.slice (some ⟨g, 0, none⟩) (n + 1) cap)) w') :
   wpList Tryz.prog ops Q (o :: rest) a w := by
 obtain ⟨i0, hi0, hz0, hz1, hz2⟩ := info_parts hi
 unfold FitB at hlen
 have hb : (n + 1) * bytes ≤ 140737488355328 := hlen
 have hb1 := Nat.le_mul_of_pos_right (n + 1) hby
 refine wpList_append_lies _ hgd s x t ho base e i0 z size bytes ht hi0 hz0 hz1 hz2 hz hsz v n xs hs hown ⟨X, 0, none⟩ 1 1 cs hx (by omega) (news_at hX) h1 (by decide) (by unfold maxLen; omega) hb hbase _ rfl ?_
 intro g cap w' k1 k2 _ _
 exact h g cap w' k1 k2
theorem FitB.le {k m n : Nat} (h : FitB k n) (hm : m ≤ n) : FitB k m := by unfold FitB at *; exact Nat.le_trans (Nat.mul_le_mul_right _ hm) h
theorem copiedRegion_any (L : List PReg) (a : Option Addr) (c : Nat) (w : World) (h : RegIn w.heap.size w a L) (hr : ∀ r ∈ L, r.data.length ≤ 140737488355328 ∧ FitB 64 r.slots.length) (hl : FitB 56 L.length) :
   Calls Tryz.prog 49 #[.slice a L.length c, .func (.func 50) #[] #[]] w fun x w' => ∃ v, x = .returned v ∧ ∃ css, w'.ownsRow w.heap.size 65 4 v L.length css.flatten ∧ All2 (RegC w.heap.size w') css L ∧ Below w.heap.size w w' := by
 replace h := Hid.mk h
 replace hr := Hid.mk hr
 have hl1 : (L.length : Int) ≤ 140737488355328 := by unfold FitB at hl; omega
 replace hl := Hid.mk hl
 go_enter Tryz.func49, Tryz.ntmps49
 go_wp2_with fail
 go_loopw [5, 10] (fun l i wr => ∃ (j : Nat) (css : List (List Value)), i = .int .i64 j ∧ j ≤ L.length ∧ Hid (wr.ownsRow w.heap.size 65 4 l j css.flatten ∧ All2 (RegC w.heap.size wr) css (L.take j) ∧ Below w.heap.size w wr)) (fun _ i _ => L.length - (intOf i).toNat)
 case atStart => exact ⟨0, [], rfl, by omega, ⟨⟨rfl, .inl ⟨rfl, rfl⟩⟩, trivial, Below.refl _ _⟩⟩
 case round =>
   obtain ⟨j, css, rfl, hj, ⟨hO, hE, hB⟩⟩ := hrel
   obtain ⟨la, lc, rfl⟩ := own_slice hO
   by_cases hlt : j < L.length
   · have jl : (j : Int) < L.length := by omega
     obtain ⟨b, off, sa, sc, rfl, hb, hb2, c0, c1, c2, c3, hs⟩ := (h.out.below hB) j hlt
     have hq := hr.out L[j] (List.getElem_mem hlt)
     have hsn : L.take (j + 1) = L.take j ++ [L[j]] := List.take_succ_eq_append_getElem hlt
     have hG1 : Gr wr (wr.alloc (.cells #[.int .u64 L[j].b, .int .u64 L[j].n, .string (str L[j].data), .slice sa L[j].slots.length sc] 65)) := (Gr.refl wr).alloc _
     have hB1 := hB.trans (hG1.below.mono hB.size)
     have hc := copyRegion_any L[j] sa sc _ ((hs.below (hG1.below.mono hB.size)).mono hB1.size) hq.1 hq.2
     generalize L[j] = r at *
     have hO1 := own_below hO hG1.below
     have hE1 : All2 (RegC w.heap.size _) css (L.take j) := hE.imp fun _ _ q => q.step (grown_of hG1.below none) (nes_none _)
     replace hsn := Hid.mk hsn
     replace hc := Hid.mk hc
     replace hB1 := Hid.mk hB1
     replace hO1 := Hid.mk hO1
     replace hE1 := Hid.mk hE1
     clear hO hE hB hG1
     go_wp2_with fail
     refine hc.out.mono ?_
     rintro z w1 ⟨va, vc, rfl, hn1, hB2⟩
     have hN : RegC w.heap.size w1 [.int .u64 r.b, .int .u64 r.n, .string (str r.data), .slice va r.slots.length vc] r := ⟨va, vc, rfl, own_base hn1 hB1.out.size⟩
     have hO2 := own_below hO1.out hB2
     have hE2 := (hE1.out.imp fun _ _ q => q.step (grown_of hB2 none) (nes_none _)).snoc hN
     have hG3 : Gr w1 (w1.alloc (.cells #[.int .u64 r.b, .int .u64 r.n, .string (str r.data), .slice va r.slots.length vc] 65)) := (Gr.refl w1).alloc _
     have hA : At (w1.alloc (.cells #[.int .u64 r.b, .int .u64 r.n, .string (str r.data), .slice va r.slots.length vc] 65)) w1.heap.size [Value.int .u64 r.b, .int .u64 r.n, .string (str r.data), .slice va r.slots.length vc].toArray := At.new _ _ _
     replace hO2 := Hid.mk (own_below hO2 hG3.below)
     replace hE2 := Hid.mk (hE2.imp fun _ _ q => q.step (grown_of hG3.below none) (nes_none _))
     have hB := Hid.mk ((hB1.out.trans (hB2.mono hB1.out.size)).trans (hG3.below.mono (Nat.le_trans hB1.out.size hB2.size)))
     have hs := Hid.mk hB.out.size
     replace hA := Hid.mk hA
     have hf := Hid.mk (hl.out.le (show j + 1 ≤ L.length by omega))
     clear hG3 hB2 hN hc hO1 hE1 hB1 hn1
     go_wp2_with (at_builtin; refine wpList_append_el2 rfl (.tmp 14) (.tmp 18) 22 65 _ 4 56 rfl Tryz.underlying22 infoRegion rfl (by decide) (by decide) w.heap.size (.slice la j lc) j css.flatten [Value.int .u64 r.b, .int .u64 r.n, .string (str r.data), .slice va r.slots.length vc] rfl hO2.out w1.heap.size rfl hA.out rfl (by simp [Value.oneCell']) hf.out hs.out ?_)
     intro gg cc w5 hrow hgr
     replace hE2 := Hid.mk (hE2.out.imp fun _ _ q => q.step hgr (nes_own hO2.out (by decide) (by decide) (by decide) (by decide)))
     replace hB := Hid.mk (hB.out.trans (Below.of_grown hgr hs.out (fun i hq => (own_block hO2.out i hq).1)))
     replace hrow := Hid.mk hrow
     clear hgr hO2 hs hA
     go_wp2_with fail
     go_roundw
     case rel => exact ⟨j + 1, css ++ [[.int .u64 r.b, .int .u64 r.n, .string (str r.data), .slice va r.slots.length vc]], by simp, by omega, ⟨by rw [flat_snoc2]; exact hrow.out, by rw [hsn.out]; exact hE2.out, hB.out⟩⟩
     case measure => simp [intOf]; omega
   · have jl : ¬ (j : Int) < L.length := by omega
     have hjl : j = L.length := by omega
     subst hjl
     rw [List.take_length] at hE
     replace hO := Hid.mk hO
     replace hE := Hid.mk hE
     replace hB := Hid.mk hB
     go_wp2_with fail
     go_ret
     exact ⟨_, rfl, css, hO.out, hE.out, hB.out⟩
theorem copiedComp_any (L : List PComp) (a : Option Addr) (c : Nat) (w : World) (h : CompIn w.heap.size w a L) (hr : ∀ r ∈ L, FitB 48 r.roots.length ∧ FitB 40 r.code.length) (hl : FitB 48 L.length) :
   Calls Tryz.prog 51 #[.slice a L.length c, .func (.func 52) #[] #[]] w fun x w' => ∃ v, x = .returned v ∧ ∃ css, w'.ownsRow w.heap.size 50 2 v L.length css.flatten ∧ All2 (CompC w.heap.size w') css L ∧ Below w.heap.size w w' := by
 replace h := Hid.mk h
 replace hr := Hid.mk hr
 have hl1 : (L.length : Int) ≤ 140737488355328 := by unfold FitB at hl; omega
 replace hl := Hid.mk hl
 go_enter Tryz.func51, Tryz.ntmps51
 go_wp2_with fail
 go_loopw [5, 10] (fun l i wr => ∃ (j : Nat) (css : List (List Value)), i = .int .i64 j ∧ j ≤ L.length ∧ Hid (wr.ownsRow w.heap.size 50 2 l j css.flatten ∧ All2 (CompC w.heap.size wr) css (L.take j) ∧ Below w.heap.size w wr)) (fun _ i _ => L.length - (intOf i).toNat)
 case atStart => exact ⟨0, [], rfl, by omega, ⟨⟨rfl, .inl ⟨rfl, rfl⟩⟩, trivial, Below.refl _ _⟩⟩
 case round =>
   obtain ⟨j, css, rfl, hj, ⟨hO, hE, hB⟩⟩ := hrel
   obtain ⟨la, lc, rfl⟩ := own_slice hO
   by_cases hlt : j < L.length
   · have jl : (j : Int) < L.length := by omega
     obtain ⟨b, off, ra, rc, ka, kc, rfl, hb, hb2, c0, c1, hs, hs2⟩ := (h.out.below hB) j hlt
     have hq := hr.out L[j] (List.getElem_mem hlt)
     have hsn : L.take (j + 1) = L.take j ++ [L[j]] := List.take_succ_eq_append_getElem hlt
     have hG1 : Gr wr (wr.alloc (.cells #[.slice ra L[j].roots.length rc, .slice ka L[j].code.length kc] 50)) := (Gr.refl wr).alloc _
     have hB1 := hB.trans (hG1.below.mono hB.size)
     have hc := copyComp_any L[j] ra ka rc kc _ ((hs.below (hG1.below.mono hB.size)).mono hB1.size) ((hs2.below (hG1.below.mono hB.size)).mono hB1.size) hq.1 hq.2
     generalize L[j] = r at *
     have hO1 := own_below hO hG1.below
     have hE1 : All2 (CompC w.heap.size _) css (L.take j) := hE.imp fun _ _ q => q.step (grown_of hG1.below none) (nes_none _)
     replace hsn := Hid.mk hsn
     replace hc := Hid.mk hc
     replace hB1 := Hid.mk hB1
     replace hO1 := Hid.mk hO1
     replace hE1 := Hid.mk hE1
     clear hO hE hB hG1
     go_wp2_with fail
     refine hc.out.mono ?_
     rintro z w1 ⟨va, vc, ua, uc, rfl, hn1, hn2, hB2⟩
     have hN : CompC w.heap.size w1 [.slice va r.roots.length vc, .slice ua r.code.length uc] r := ⟨va, vc, ua, uc, rfl, own_base hn1 hB1.out.size, own_base hn2 hB1.out.size⟩
     have hO2 := own_below hO1.out hB2
     have hE2 := (hE1.out.imp fun _ _ q => q.step (grown_of hB2 none) (nes_none _)).snoc hN
     have hG3 : Gr w1 (w1.alloc (.cells #[.slice va r.roots.length vc, .slice ua r.code.length uc] 50)) := (Gr.refl w1).alloc _
     have hA : At (w1.alloc (.cells #[.slice va r.roots.length vc, .slice ua r.code.length uc] 50)) w1.heap.size [Value.slice va r.roots.length vc, .slice ua r.code.length uc].toArray := At.new _ _ _
     replace hO2 := Hid.mk (own_below hO2 hG3.below)
     replace hE2 := Hid.mk (hE2.imp fun _ _ q => q.step (grown_of hG3.below none) (nes_none _))
     have hB := Hid.mk ((hB1.out.trans (hB2.mono hB1.out.size)).trans (hG3.below.mono (Nat.le_trans hB1.out.size hB2.size)))
     have hs := Hid.mk hB.out.size
     replace hA := Hid.mk hA
     have hf := Hid.mk (hl.out.le (show j + 1 ≤ L.length by omega))
     clear hG3 hB2 hN hc hO1 hE1 hB1 hn1 hn2
     go_wp2_with (at_builtin; refine wpList_append_el2 rfl (.tmp 14) (.tmp 18) 23 50 _ 2 48 rfl Tryz.underlying23 infoComp rfl (by decide) (by decide) w.heap.size (.slice la j lc) j css.flatten [Value.slice va r.roots.length vc, .slice ua r.code.length uc] rfl hO2.out w1.heap.size rfl hA.out rfl (by simp [Value.oneCell']) hf.out hs.out ?_)
     intro gg cc w5 hrow hgr
     replace hE2 := Hid.mk (hE2.out.imp fun _ _ q => q.step hgr (nes_own hO2.out (by decide) (by decide) (by decide) (by decide)))
     replace hB := Hid.mk (hB.out.trans (Below.of_grown hgr hs.out (fun i hq => (own_block hO2.out i hq).1)))
     replace hrow := Hid.mk hrow
     clear hgr hO2 hs hA
     go_wp2_with fail
     go_roundw
     case rel => exact ⟨j + 1, css ++ [[.slice va r.roots.length vc, .slice ua r.code.length uc]], by simp, by omega, ⟨by rw [flat_snoc2]; exact hrow.out, by rw [hsn.out]; exact hE2.out, hB.out⟩⟩
     case measure => simp [intOf]; omega
   · have jl : ¬ (j : Int) < L.length := by omega
     have hjl : j = L.length := by omega
     subst hjl
     rw [List.take_length] at hE
     replace hO := Hid.mk hO
     replace hE := Hid.mk hE
     replace hB := Hid.mk hB
     go_wp2_with fail
     go_ret
     exact ⟨_, rfl, css, hO.out, hE.out, hB.out⟩
theorem copiedGate_any (L : List PGate) (a : Option Addr) (c : Nat) (w : World) (h : GateIn w.heap.size w a L) (hr : ∀ r ∈ L, FitB 56 r.args.length ∧ FitB 56 r.res.length) (hl : FitB 64 L.length) :
   Calls Tryz.prog 53 #[.slice a L.length c, .func (.func 54) #[] #[]] w fun x w' => ∃ v, x = .returned v ∧ ∃ css, w'.ownsRow w.heap.size 53 4 v L.length css.flatten ∧ All2 (GateC w.heap.size w') css L ∧ Below w.heap.size w w' := by
 replace h := Hid.mk h
 replace hr := Hid.mk hr
 have hl1 : (L.length : Int) ≤ 140737488355328 := by unfold FitB at hl; omega
 replace hl := Hid.mk hl
 go_enter Tryz.func53, Tryz.ntmps53
 go_wp2_with fail
 go_loopw [5, 10] (fun l i wr => ∃ (j : Nat) (css : List (List Value)), i = .int .i64 j ∧ j ≤ L.length ∧ Hid (wr.ownsRow w.heap.size 53 4 l j css.flatten ∧ All2 (GateC w.heap.size wr) css (L.take j) ∧ Below w.heap.size w wr)) (fun _ i _ => L.length - (intOf i).toNat)
 case atStart => exact ⟨0, [], rfl, by omega, ⟨⟨rfl, .inl ⟨rfl, rfl⟩⟩, trivial, Below.refl _ _⟩⟩
 case round =>
   obtain ⟨j, css, rfl, hj, ⟨hO, hE, hB⟩⟩ := hrel
   obtain ⟨la, lc, rfl⟩ := own_slice hO
   by_cases hlt : j < L.length
   · have jl : (j : Int) < L.length := by omega
     obtain ⟨b, off, xa, xc, ya, yc, rfl, hb, hb2, c0, c1, c2, c3, hs, hs2⟩ := (h.out.below hB) j hlt
     have hq := hr.out L[j] (List.getElem_mem hlt)
     have hsn : L.take (j + 1) = L.take j ++ [L[j]] := List.take_succ_eq_append_getElem hlt
     have hG1 : Gr wr (wr.alloc (.cells #[.int .i64 L[j].c, .int .i64 L[j].e, .slice xa L[j].args.length xc, .slice ya L[j].res.length yc] 53)) := (Gr.refl wr).alloc _
     have hB1 := hB.trans (hG1.below.mono hB.size)
     have hc := copyGate_any L[j] xa ya xc yc _ ((hs.below (hG1.below.mono hB.size)).mono hB1.size) ((hs2.below (hG1.below.mono hB.size)).mono hB1.size) hq.1 hq.2
     generalize L[j] = r at *
     have hO1 := own_below hO hG1.below
     have hE1 : All2 (GateC w.heap.size _) css (L.take j) := hE.imp fun _ _ q => q.step (grown_of hG1.below none) (nes_none _)
     replace hsn := Hid.mk hsn
     replace hc := Hid.mk hc
     replace hB1 := Hid.mk hB1
     replace hO1 := Hid.mk hO1
     replace hE1 := Hid.mk hE1
     clear hO hE hB hG1
     go_wp2_with fail
     refine hc.out.mono ?_
     rintro z w1 ⟨va, vc, ua, uc, rfl, hn1, hn2, hB2⟩
     have hN : GateC w.heap.size w1 [.int .i64 r.c, .int .i64 r.e, .slice va r.args.length vc, .slice ua r.res.length uc] r := ⟨va, vc, ua, uc, rfl, own_base hn1 hB1.out.size, own_base hn2 hB1.out.size⟩
     have hO2 := own_below hO1.out hB2
     have hE2 := (hE1.out.imp fun _ _ q => q.step (grown_of hB2 none) (nes_none _)).snoc hN
     have hG3 : Gr w1 (w1.alloc (.cells #[.int .i64 r.c, .int .i64 r.e, .slice va r.args.length vc, .slice ua r.res.length uc] 53)) := (Gr.refl w1).alloc _
     have hA : At (w1.alloc (.cells #[.int .i64 r.c, .int .i64 r.e, .slice va r.args.length vc, .slice ua r.res.length uc] 53)) w1.heap.size [Value.int .i64 r.c, .int .i64 r.e, .slice va r.args.length vc, .slice ua r.res.length uc].toArray := At.new _ _ _
     replace hO2 := Hid.mk (own_below hO2 hG3.below)
     replace hE2 := Hid.mk (hE2.imp fun _ _ q => q.step (grown_of hG3.below none) (nes_none _))
     have hB := Hid.mk ((hB1.out.trans (hB2.mono hB1.out.size)).trans (hG3.below.mono (Nat.le_trans hB1.out.size hB2.size)))
     have hs := Hid.mk hB.out.size
     replace hA := Hid.mk hA
     have hf := Hid.mk (hl.out.le (show j + 1 ≤ L.length by omega))
     clear hG3 hB2 hN hc hO1 hE1 hB1 hn1 hn2
     go_wp2_with (at_builtin; refine wpList_append_el2 rfl (.tmp 14) (.tmp 18) 24 53 _ 4 64 rfl Tryz.underlying24 infoGate rfl (by decide) (by decide) w.heap.size (.slice la j lc) j css.flatten [Value.int .i64 r.c, .int .i64 r.e, .slice va r.args.length vc, .slice ua r.res.length uc] rfl hO2.out w1.heap.size rfl hA.out rfl (by simp [Value.oneCell']) hf.out hs.out ?_)
     intro gg cc w5 hrow hgr
     replace hE2 := Hid.mk (hE2.out.imp fun _ _ q => q.step hgr (nes_own hO2.out (by decide) (by decide) (by decide) (by decide)))
     replace hB := Hid.mk (hB.out.trans (Below.of_grown hgr hs.out (fun i hq => (own_block hO2.out i hq).1)))
     replace hrow := Hid.mk hrow
     clear hgr hO2 hs hA
     go_wp2_with fail
     go_roundw
     case rel => exact ⟨j + 1, css ++ [[.int .i64 r.c, .int .i64 r.e, .slice va r.args.length vc, .slice ua r.res.length uc]], by simp, by omega, ⟨by rw [flat_snoc2]; exact hrow.out, by rw [hsn.out]; exact hE2.out, hB.out⟩⟩
     case measure => simp [intOf]; omega
   · have jl : ¬ (j : Int) < L.length := by omega
     have hjl : j = L.length := by omega
     subst hjl
     rw [List.take_length] at hE
     replace hO := Hid.mk hO
     replace hE := Hid.mk hE
     replace hB := Hid.mk hB
     go_wp2_with fail
     go_ret
     exact ⟨_, rfl, css, hO.out, hE.out, hB.out⟩
end Go.Proofs.YthmlkcglglcljaaGreatDoor


namespace Go.Proofs.YthmlkcglglcljaaGreatDoor
namespace T
open Go.RowKit

end T
end Go.Proofs.YthmlkcglglcljaaGreatDoor


namespace Go.Proofs.YthmlkcglglcljaaGreatDoor
namespace T
open Go.RowKit

theorem Bx.setAt {w : World} {a : Nat} {row row' : List Value} (i : Nat) (v : Value) (h : Bx w a row) (hn : ∀ x, x ≠ i → row'[x]? = row[x]?) (hv : row'[i]? = some v) (hy : ∃ y, row[i]? = some y) : Bx (w.setCell ⟨a, i, none⟩ v) a row' := by
 refine ⟨by simpa using h.lt, fun o u q => ?_, fun o => by simpa using h.fr o⟩
 by_cases e : o = i
 · subst e
   obtain ⟨y, hy⟩ := hy
   rw [hv] at q
   injection q with q
   subst q
   exact css (h.at_ o y hy)
 · rw [cso (fun _ r => e r.symm)]
   rw [hn o e] at q
   exact h.at_ o u q
theorem mRow_tail {p0 p1 p2 : Value} {d : Int} {km : Nat} {f : Fm} {st inp out tou st' inp' out' tou' : Value} {o o' : Ed} (i : Nat) (h : ∀ y, y ≠ i → [st', inp', out', tou', Value.int .i64 o'.e, .int .u64 o'.v, .int .i64 o'.f][y]? = [st, inp, out, tou, Value.int .i64 o.e, .int .u64 o.v, .int .i64 o.f][y]?) : ∀ x, x ≠ 119 + i → (mRow p0 p1 p2 d km f st' inp' out' tou' o')[x]? = (mRow p0 p1 p2 d km f st inp out tou o)[x]? := by
 intro x hx
 rw [mRow_idx, mRow_idx]
 by_cases h1 : x < 7
 · rw [if_pos h1, if_pos h1]
 · rw [if_neg h1, if_neg h1]
   by_cases h2 : x < 119
   · rw [if_pos h2, if_pos h2]
   · rw [if_neg h2, if_neg h2]
     exact h (x - 119) (by omega)
theorem mRow_at {p0 p1 p2 : Value} {d : Int} {km : Nat} {f : Fm} {st inp out tou : Value} {o : Ed} (i : Nat) : (mRow p0 p1 p2 d km f st inp out tou o)[119 + i]? = [st, inp, out, tou, Value.int .i64 o.e, .int .u64 o.v, .int .i64 o.f][i]? := by
 rw [mRow_idx, if_neg (by omega), if_neg (by omega), Nat.add_sub_cancel_left]
theorem infoTouch : (Tryz.prog.info? 78).map (fun i => (i.zero, i.size, i.bytes)) = some (some (.agg #[.bool false, .int .u64 0, .int .u64 0]), 3, 24) := by kernel_rfl
end T
end Go.Proofs.YthmlkcglglcljaaGreatDoor


namespace Go.Proofs.YthmlkcglglcljaaGreatDoor
namespace C
open Go.RowKit
open T (Sep Ob Kp Mf TgIn boxOb Fm Tc Ed Vl Cp Bx tgOb mRow mRow_idx mRow_tail mRow_at updV flt accessF)

theorem addr_addZ (b off j : Nat) : (⟨b, off, none⟩ : Addr).add j = ⟨b, off + j, none⟩ := by by_cases h0 : j = 0 <;> simp [Addr.add, h0]
theorem wp_append_z {o : Oper} {a : Act} {K : Act → World → Prop} {Q : Exit → Act → World → Prop} {w : World} (s x : Operand) (t e : TypeId) (z : Value) (size bytes : Nat)
   (ho : o.op = .call { callee := .builtin .append, args := #[s, x], argTypes := #[t, t] }) (ht : Tryz.prog.underlying t = some (.slice e))
   (hi : (Tryz.prog.info? e).map (fun i => (i.zero, i.size, i.bytes)) = some (some z, size, bytes)) (hz : z.cells.size = size) (hsz : 0 < size) (hby : bytes ≤ 2048)
   (base : Nat) (v : Value) (n : Nat) (xs cs : List Value) (hs : a.eval s = v) (hown : w.ownsRow base e size v n xs) (X : Nat) (hx : a.eval x = .slice (some ⟨X, 0, none⟩) 1 1) (hX : At w X cs.toArray) (hc : cs.length = size) (h1 : ∀ u ∈ cs, u.oneCell' = true)
   (hlen : n ≤ 1000000) (hbase : base ≤ w.heap.size)
   (h : ∀ g cap w', w'.ownsRow base e size (.slice (some ⟨g, 0, none⟩) (n + 1) cap) (n + 1) (xs ++ cs) → w.grownBy w' v.ownBlock → (v.ownBlock = some g ∨ g = w.heap.size) → K (a.put o.dst (.slice (some ⟨g, 0, none⟩) (n + 1) cap)) w') : o.wp Tryz.prog a w K Q := by
 obtain ⟨i0, hi0, hz0, hz1, hz2⟩ := T.info_parts' hi
 have hb : (n + 1) * bytes ≤ 140737488355328 := Nat.le_trans (Nat.mul_le_mul_left _ hby) (by omega)
 have hn : ∀ j u, cs[j]? = some u → w.cell? ((⟨X, 0, none⟩ : Addr).add j) = some u := by
   intro j u hj
   rw [addr_addZ, Nat.zero_add, hX.2.1]
   simpa using hj
 refine wp_append_lies _ s x t ho base e i0 z size bytes ht hi0 hz0 hz1 hz2 hz hsz v n xs hs hown ⟨X, 0, none⟩ 1 1 cs hx (by omega) hn h1 (by decide) (by unfold maxLen; omega) hb hbase _ rfl ?_
 intro g cap w' k1 k2 k3 _
 exact h g cap w' k1 k2 k3
theorem kp_grown {w w1 : World} {row : Option Nat} (h : w.grownBy w1 row) : Kp (fun k => row = some k) w w1 := ⟨h.os, h.tape, h.output, h.size, fun k hk hn => h.block k hk (fun e => hn e.symm)⟩
theorem own_slZ {w : World} {lo e s n : Nat} {v : Value} {xs : List Value} (h : w.ownsRow lo e s v n xs) : ∃ a c, v = .slice a n c := by
 rcases h.2 with ⟨rfl, rfl⟩ | ⟨g, cap, cur, rfl, _⟩
 · exact ⟨none, 0, rfl⟩
 · exact ⟨_, _, rfl⟩
section
variable {B : Nat} {W W2 : World} {a : Nat} {P : PImg} {s : Ms} {l : List Ob} {q : Pt}
theorem sep_box (x x' : List Value) {l2 : List Ob} (h : Sep B W (bx_ a x :: l2)) (v : Value) (j : Nat) (hb : Bx W a x → Bx (W.setCell ⟨a, j, none⟩ v) a x') (hB : B ≤ W.heap.size) : Sep B (W.setCell ⟨a, j, none⟩ v) (bx_ a x' :: l2) ∧ Below B W (W.setCell ⟨a, j, none⟩ v) := by
 have hk : Kp (fun k => k = a) W (W.setCell ⟨a, j, none⟩ v) := Kp.set (S := fun k => k = a) W ⟨a, j, none⟩ v rfl
 exact ⟨sep_change (l1 := []) (o := bx_ a x) (o' := bx_ a x') h (hb (h.ins (bx_ a x) (by simp))) hk (fun _ r => .inl r) hB, sep_below (l1 := []) (o := bx_ a x) h hk hB⟩
theorem MIn.app_tou (t : Tc) (h : Sep B W (obs B a P s q ++ l)) (hpg : PgOk P q) (le : B ≤ W.heap.size) {g cap : Nat} (hown : W2.ownsRow B 78 3 (.slice (some ⟨g, 0, none⟩) (s.tou.length + 1) cap) (s.tou.length + 1) (s.tou.flatMap Tc.row ++ t.row)) (gr : W.grownBy W2 q.tv.ownBlock) (hg : q.tv.ownBlock = some g ∨ g = W.heap.size) :
   Bx W2 a (rowOf P s q) ∧ (∀ o ∈ l, o.In W2) ∧ MIn B (W2.setCell ⟨a, 122, none⟩ (.slice (some ⟨g, 0, none⟩) (s.tou.length + 1) cap)) a P { s with tou := s.tou ++ [t] } l ∧ Below B W (W2.setCell ⟨a, 122, none⟩ (.slice (some ⟨g, 0, none⟩) (s.tou.length + 1) cap)) := by
 have hk := kp_grown gr
 have h1 := sep_change (l1 := [bx_ a (rowOf P s q), tgOb q.SM q.km s.b s.t, stOb B q.sv s.st, inOb q.iv s.inp, ouOb B q.ov_ s.out]) (o := tcOb B q.tv s.tou) (o' := tcOb B (.slice (some ⟨g, 0, none⟩) (s.tou.length + 1) cap) (s.tou ++ [t])) (l2 := snapOb q.lo q.W0 :: l) h (by
   show W2.ownsRow B _ 3 _ (s.tou ++ [t]).length ((s.tou ++ [t]).flatMap Tc.row)
   rw [List.length_append, List.flatMap_append]
   simpa using hown) hk (fun k r => by
   have e : g = k := by simpa [tcOb, rowOb, Value.ownBlock] using r
   rcases hg with u | u
   · exact .inl (e ▸ u)
   · exact .inr (by omega)) le
 have b1 := sep_below (l1 := [bx_ a (rowOf P s q), tgOb q.SM q.km s.b s.t, stOb B q.sv s.st, inOb q.iv s.inp, ouOb B q.ov_ s.out]) (o := tcOb B q.tv s.tou) (l2 := snapOb q.lo q.W0 :: l) h hk le
 obtain ⟨h2, b2⟩ := sep_box (rowOf P s q) (rowOf P { s with tou := s.tou ++ [t] } { q with tv := (.slice (some ⟨g, 0, none⟩) (s.tou.length + 1) cap) }) h1 (.slice (some ⟨g, 0, none⟩) (s.tou.length + 1) cap) 122 (fun hb => T.Bx.setAt 122 _ hb (mRow_tail 3 (fun y hy => by
     match y, hy with
     | 0, hy => first | rfl | exact absurd rfl hy
     | 1, hy => first | rfl | exact absurd rfl hy
     | 2, hy => first | rfl | exact absurd rfl hy
     | 3, hy => first | rfl | exact absurd rfl hy
     | 4, _ => rfl
     | 5, _ => rfl
     | 6, _ => rfl
     | _ + 7, _ => rfl)) (mRow_at 3) ⟨_, mRow_at 3⟩) (Nat.le_trans le b1.size)
 refine ⟨h1.ins (bx_ a (rowOf P s q)) (by simp), fun o ho => h1.ins o (by simp [ho]), ?_⟩
 exact ⟨⟨⟨{ q with tv := (.slice (some ⟨g, 0, none⟩) (s.tou.length + 1) cap) }, h2, hpg⟩, Nat.le_trans le (b1.trans b2).size⟩, b1.trans b2⟩
theorem MIn.app_out (t : Int) (h : Sep B W (obs B a P s q ++ l)) (hpg : PgOk P q) (le : B ≤ W.heap.size) {g cap : Nat} (hown : W2.ownsRow B 32 1 (.slice (some ⟨g, 0, none⟩) (s.out.length + 1) cap) (s.out.length + 1) (s.out.map u64I ++ [u64I t])) (gr : W.grownBy W2 q.ov_.ownBlock) (hg : q.ov_.ownBlock = some g ∨ g = W.heap.size) :
   Bx W2 a (rowOf P s q) ∧ (∀ o ∈ l, o.In W2) ∧ MIn B (W2.setCell ⟨a, 121, none⟩ (.slice (some ⟨g, 0, none⟩) (s.out.length + 1) cap)) a P { s with out := s.out ++ [t] } l ∧ Below B W (W2.setCell ⟨a, 121, none⟩ (.slice (some ⟨g, 0, none⟩) (s.out.length + 1) cap)) := by
 have hk := kp_grown gr
 have h1 := sep_change (l1 := [bx_ a (rowOf P s q), tgOb q.SM q.km s.b s.t, stOb B q.sv s.st, inOb q.iv s.inp]) (o := ouOb B q.ov_ s.out) (o' := ouOb B (.slice (some ⟨g, 0, none⟩) (s.out.length + 1) cap) (s.out ++ [t])) (l2 := tcOb B q.tv s.tou :: snapOb q.lo q.W0 :: l) h (by
   show W2.ownsRow B _ 1 _ (s.out ++ [t]).length ((s.out ++ [t]).map u64I)
   rw [List.length_append, List.map_append]
   simpa using hown) hk (fun k r => by
   have e : g = k := by simpa [ouOb, rowOb, Value.ownBlock] using r
   rcases hg with u | u
   · exact .inl (e ▸ u)
   · exact .inr (by omega)) le
 have b1 := sep_below (l1 := [bx_ a (rowOf P s q), tgOb q.SM q.km s.b s.t, stOb B q.sv s.st, inOb q.iv s.inp]) (o := ouOb B q.ov_ s.out) (l2 := tcOb B q.tv s.tou :: snapOb q.lo q.W0 :: l) h hk le
 obtain ⟨h2, b2⟩ := sep_box (rowOf P s q) (rowOf P { s with out := s.out ++ [t] } { q with ov_ := (.slice (some ⟨g, 0, none⟩) (s.out.length + 1) cap) }) h1 (.slice (some ⟨g, 0, none⟩) (s.out.length + 1) cap) 121 (fun hb => T.Bx.setAt 121 _ hb (mRow_tail 2 (fun y hy => by
     match y, hy with
     | 0, hy => first | rfl | exact absurd rfl hy
     | 1, hy => first | rfl | exact absurd rfl hy
     | 2, hy => first | rfl | exact absurd rfl hy
     | 3, hy => first | rfl | exact absurd rfl hy
     | 4, _ => rfl
     | 5, _ => rfl
     | 6, _ => rfl
     | _ + 7, _ => rfl)) (mRow_at 2) ⟨_, mRow_at 2⟩) (Nat.le_trans le b1.size)
 refine ⟨h1.ins (bx_ a (rowOf P s q)) (by simp), fun o ho => h1.ins o (by simp [ho]), ?_⟩
 exact ⟨⟨⟨{ q with ov_ := (.slice (some ⟨g, 0, none⟩) (s.out.length + 1) cap) }, h2, hpg⟩, Nat.le_trans le (b1.trans b2).size⟩, b1.trans b2⟩
theorem MIn.app_st (t : Fm) (h : Sep B W (obs B a P s q ++ l)) (hpg : PgOk P q) (le : B ≤ W.heap.size) {g cap : Nat} (hown : W2.ownsRow B 86 114 (.slice (some ⟨g, 0, none⟩) (s.st.length + 1) cap) (s.st.length + 1) (s.st.flatMap Fm.row ++ t.row)) (gr : W.grownBy W2 q.sv.ownBlock) (hg : q.sv.ownBlock = some g ∨ g = W.heap.size) :
   Bx W2 a (rowOf P s q) ∧ (∀ o ∈ l, o.In W2) ∧ MIn B (W2.setCell ⟨a, 119, none⟩ (.slice (some ⟨g, 0, none⟩) (s.st.length + 1) cap)) a P { s with st := s.st ++ [t] } l ∧ Below B W (W2.setCell ⟨a, 119, none⟩ (.slice (some ⟨g, 0, none⟩) (s.st.length + 1) cap)) := by
 have hk := kp_grown gr
 have h1 := sep_change (l1 := [bx_ a (rowOf P s q), tgOb q.SM q.km s.b s.t]) (o := stOb B q.sv s.st) (o' := stOb B (.slice (some ⟨g, 0, none⟩) (s.st.length + 1) cap) (s.st ++ [t])) (l2 := inOb q.iv s.inp :: ouOb B q.ov_ s.out :: tcOb B q.tv s.tou :: snapOb q.lo q.W0 :: l) h (by
   show W2.ownsRow B _ 114 _ (s.st ++ [t]).length ((s.st ++ [t]).flatMap Fm.row)
   rw [List.length_append, List.flatMap_append]
   simpa using hown) hk (fun k r => by
   have e : g = k := by simpa [stOb, rowOb, Value.ownBlock] using r
   rcases hg with u | u
   · exact .inl (e ▸ u)
   · exact .inr (by omega)) le
 have b1 := sep_below (l1 := [bx_ a (rowOf P s q), tgOb q.SM q.km s.b s.t]) (o := stOb B q.sv s.st) (l2 := inOb q.iv s.inp :: ouOb B q.ov_ s.out :: tcOb B q.tv s.tou :: snapOb q.lo q.W0 :: l) h hk le
 obtain ⟨h2, b2⟩ := sep_box (rowOf P s q) (rowOf P { s with st := s.st ++ [t] } { q with sv := (.slice (some ⟨g, 0, none⟩) (s.st.length + 1) cap) }) h1 (.slice (some ⟨g, 0, none⟩) (s.st.length + 1) cap) 119 (fun hb => T.Bx.setAt 119 _ hb (mRow_tail 0 (fun y hy => by
     match y, hy with
     | 0, hy => first | rfl | exact absurd rfl hy
     | 1, hy => first | rfl | exact absurd rfl hy
     | 2, hy => first | rfl | exact absurd rfl hy
     | 3, hy => first | rfl | exact absurd rfl hy
     | 4, _ => rfl
     | 5, _ => rfl
     | 6, _ => rfl
     | _ + 7, _ => rfl)) (mRow_at 0) ⟨_, mRow_at 0⟩) (Nat.le_trans le b1.size)
 refine ⟨h1.ins (bx_ a (rowOf P s q)) (by simp), fun o ho => h1.ins o (by simp [ho]), ?_⟩
 exact ⟨⟨⟨{ q with sv := (.slice (some ⟨g, 0, none⟩) (s.st.length + 1) cap) }, h2, hpg⟩, Nat.le_trans le (b1.trans b2).size⟩, b1.trans b2⟩
end
end C
end Go.Proofs.YthmlkcglglcljaaGreatDoor
