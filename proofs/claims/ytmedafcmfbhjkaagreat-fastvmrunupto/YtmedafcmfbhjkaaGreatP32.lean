import Derived.Test.YtmedafcmfbhjkaaGreatP31
import Derived.Test.YtmedafcmfbhjkaaGreatP22
import Derived.Test.YtmedafcmfbhjkaaGreatP30
namespace Go.Proofs.YtmedafcmfbhjkaaGreat
set_option maxRecDepth 100000
set_option maxHeartbeats 40000000
namespace Z
open Go.RowKit
open T (Sep Ob Kp Mf FlIn boxOb)

def WIn (w : World) (a : Option Addr) (L : List Int) : Prop := ∀ i (h : i < L.length), ∃ b off : Nat, a = some ⟨b, off, none⟩ ∧ b < w.heap.size ∧ w.cell? ⟨b, off + i, none⟩ = some (.int .u64 L[i])
theorem WIn.gr {w W : World} {a : Option Addr} {L : List Int} (h : WIn w a L) (g : Gr w W) : WIn W a L := fun i hi => by
 obtain ⟨b, off, e1, e2, e3⟩ := h i hi
 exact ⟨b, off, e1, Nat.lt_of_lt_of_le e2 g.below.size, (T.cell_of_block (g.below.block b e2) _).trans e3⟩
theorem sameWords_any (A B : List Int) (sa sb : Option Addr) (ca cb : Nat) (w : World) (hA : WIn w sa A) (hB : WIn w sb B) (hl : A.length ≤ 1000000) :
   Calls Tryz.prog 32 #[.slice sa A.length ca, .slice sb B.length cb] w fun x w' => Says (A = B) x ∧ Gr w w' := by
 by_cases hn : A.length = B.length
 rotate_left
 · have hni : ((A.length : Int) != (B.length : Int)) = true := by simp; omega
   have z : Hz (Says (A = B) (.returned (.bool false))) := Hz.mk ⟨false, rfl, iff_of_false (by decide) (fun q => hn (by rw [q]))⟩
   clear hn
   go_enter Tryz.func32, Tryz.ntmps32
   go_wp2_with fail
   go_ret
   exact ⟨z.out, Gr.refl _⟩
 have hni : ((A.length : Int) != (B.length : Int)) = false := by simp; omega
 replace hA := Hz.mk hA
 replace hB := Hz.mk hB
 replace hn := Hz.mk hn
 go_enter Tryz.func32, Tryz.ntmps32
 go_upto_region 4 with fail
 go_loopw [5] (fun x wr => ∃ j : Nat, x = .int .i64 j ∧ j ≤ A.length ∧ Hz (∀ m (h : m < A.length) (h2 : m < B.length), m < j → A[m] = B[m]) ∧ Hz (Gr w wr)) (fun x _ => A.length - (intOf x).toNat)
 case atStart => exact ⟨0, rfl, Nat.zero_le _, Hz.mk (fun m _ _ q => absurd q (Nat.not_lt_zero _)), Hz.mk (Gr.refl _)⟩
 case round =>
   obtain ⟨j, rfl, hjl, hbe, G⟩ := hrel
   by_cases hj : j < A.length
   · have hj2 : j < B.length := by rw [← hn.out]; exact hj
     have hj1 : (j : Int) < (A.length : Int) := Int.ofNat_lt.2 hj
     have hj3 : (j : Int) < (B.length : Int) := Int.ofNat_lt.2 hj2
     obtain ⟨b1, o1, rfl, k1, c1⟩ := (hA.out.gr G.out) j hj
     obtain ⟨b2, o2, rfl, k2, c2⟩ := (hB.out.gr G.out) j hj2
     have GD : Gr wr wr.drew := (Gr.refl wr).drew
     by_cases he : A[j] = B[j]
     rotate_left
     · have hei : (A[j] != B[j]) = true := by simpa using he
       have z : Hz (Says (A = B) (.returned (.bool false))) := Hz.mk ⟨false, rfl, iff_of_false (by decide) (fun q => he (by subst q; rfl))⟩
       clear he
       go_upto_region 6 with fail
       refine wp_region_held_drew (S := (fun W => W.cell? ⟨b1, o1 + j, none⟩ = some (.int .u64 (A[j]'hj)) ∧ W.cell? ⟨b2, o2 + j, none⟩ = some (.int .u64 (B[j]'hj2)))) (by kernel_rfl) (⟨(T.cell_of_block (GD.below.block b1 k1) _).trans c1, (T.cell_of_block (GD.below.block b2 k2) _).trans c2⟩) (fun hHeld => ?_)
       refine xso 0 ?_ rfl ?_ (xso 1 ?_ rfl ?_ (xso 2 ?_ rfl ?_ (xso 3 ?_ rfl ?_ (xso 4 ?_ rfl ?_ (xso 5 ?_ rfl ?_ (xso 6 ?_ rfl ?_ (xso 7 ?_ rfl ?_ (xso 8 ?_ rfl ?_ ?_))))))))
       iterate 9 (rotate_left; focus ((try simp only [xap]); intro w hSw; (try dsimp only at hSw); go_simp; first | done | with_reducible rfl))
       try simp only [xap]
       refine xdn ?_ _
       clear hHeld
       go_wp2_with fail
       go_ret
       exact ⟨z.out, G.out.trans GD⟩
     have hei : (A[j] != B[j]) = false := by simpa using he
     have hbe2 : Hz (∀ m (h : m < A.length) (h2 : m < B.length), m < j + 1 → A[m] = B[m]) := Hz.mk (fun m h h2 q => by
       by_cases e : m < j
       · exact hbe.out m h h2 e
       · obtain rfl : m = j := by omega
         exact he)
     replace he := Hz.mk he
     go_upto_region 6 with fail
     refine wp_region_held_drew (S := (fun W => W.cell? ⟨b1, o1 + j, none⟩ = some (.int .u64 (A[j]'hj)) ∧ W.cell? ⟨b2, o2 + j, none⟩ = some (.int .u64 (B[j]'hj2)))) (by kernel_rfl) (⟨(T.cell_of_block (GD.below.block b1 k1) _).trans c1, (T.cell_of_block (GD.below.block b2 k2) _).trans c2⟩) (fun hHeld => ?_)
     refine xso 0 ?_ rfl ?_ (xso 1 ?_ rfl ?_ (xso 2 ?_ rfl ?_ (xso 3 ?_ rfl ?_ (xso 4 ?_ rfl ?_ (xso 5 ?_ rfl ?_ (xso 6 ?_ rfl ?_ (xso 7 ?_ rfl ?_ (xso 8 ?_ rfl ?_ ?_))))))))
     iterate 9 (rotate_left; focus ((try simp only [xap]); intro w hSw; (try dsimp only at hSw); go_simp; first | done | with_reducible rfl))
     try simp only [xap]
     refine xdn ?_ _
     clear hHeld
     have G4 := Hz.mk (G.out.trans GD)
     clear hbe G GD he
     go_wp2_with fail
     refine ⟨⟨j + 1, ?_, hj, hbe2, G4⟩, ?_⟩
     · first | rfl | (rw [show wrap64 ((j : Int) + 1) = ((j + 1 : Nat) : Int) by unfold wrap64; omega]) | go_num
     · first | (simp [intOf]; omega) | (rw [show wrap64 ((j : Int) + 1) = ((j + 1 : Nat) : Int) by unfold wrap64; omega]; simp [intOf]; omega)
   · have hj1 : ¬ (j : Int) < (A.length : Int) := fun q => hj (Int.ofNat_lt.1 q)
     have z : Hz (Says (A = B) (.returned (.bool true))) := Hz.mk ⟨true, rfl, iff_of_true rfl (List.ext_getElem hn.out (fun m h h2 => hbe.out m h h2 (by omega)))⟩
     go_wp2_with fail
     go_ret
     exact ⟨z.out, G.out⟩
end Z
end Go.Proofs.YtmedafcmfbhjkaaGreat


namespace Go.Proofs.YtmedafcmfbhjkaaGreat
set_option maxRecDepth 100000
set_option maxHeartbeats 40000000
namespace Z
open Go.RowKit
open T (Sep Ob Kp Mf FlIn boxOb)

theorem entry_none (R : Rp) (ca ga : Option Addr) (cc gc : Nat) (mem : ByteArray) (gate : Int) (v : Value) (w : World) (h : R.gates.length = 0 ∨ gate < 0) :
   Calls Tryz.prog 6 #[.agg #[.slice ca R.code.length cc, .slice ga R.gates.length gc, .string mem, .int .i64 R.dep], .int .i64 gate, v] w fun x w' => x = .returned (.tuple #[.int .i64 gate, v]) ∧ Gr w w' := by
 go_enter Tryz.func6, Tryz.ntmps6
 go_upto_region 1 with fail
 refine wp_world (fun W => At W w.heap.size #[.slice ca R.code.length cc, .slice ga R.gates.length gc, .string mem, .int .i64 R.dep] ∧ Gr w W) ⟨At.new w _ _, (Gr.refl _).alloc _⟩ ?_
 rintro W ⟨hQ, G⟩
 have hks : Hz (w.heap.size < W.heap.size) := Hz.mk hQ.1
 have d1 : W.cell? ⟨w.heap.size, 1, none⟩ = some (.slice ga R.gates.length gc) := hQ.2.1 1
 generalize w.heap.size = kp at *
 by_cases h0 : R.gates.length = 0
 · have hz : ((R.gates.length : Int) == 0) = true := by simp [h0]
   clear h h0
   go_wp2_with fail
   go_ret2
   exact ⟨rfl, G⟩
 · have hz : ((R.gates.length : Int) == 0) = false := beq_false_of_ne (by omega)
   have hg : gate < 0 := by
     rcases h with q | q
     · exact absurd q h0
     · exact q
   clear h h0
   go_wp2_with fail
   go_ret2
   exact ⟨rfl, G⟩
theorem own_monoZ {w : World} {lo lo2 e s n : Nat} {v : Value} {xs : List Value} (h : w.ownsRow lo e s v n xs) (hl : lo2 ≤ lo) : w.ownsRow lo2 e s v n xs := by
 refine ⟨h.1, ?_⟩
 rcases h.2 with q | ⟨g, cap, cur, e1, e2, e3⟩
 · exact .inl q
 · exact .inr ⟨g, cap, cur, e1, Nat.le_trans hl e2, e3⟩
def entL (A : List Int) (n : Nat) : List Int := (List.range n).map fun i => A.getD i (i : Int)
theorem entL_len (A : List Int) (n : Nat) : (entL A n).length = n := by simp [entL]
theorem entL_succ (A : List Int) (n : Nat) : entL A (n + 1) = entL A n ++ [A.getD n (n : Int)] := by simp [entL, List.range_succ]
theorem entry_any (R : Rp) (ca ga : Option Addr) (cc gc : Nat) (mem : ByteArray) (gate g : Nat) (A : List Int) (sa : Option Addr) (sc : Nat) (w : World) (hP : RpIn w ca ga R) (hA : WIn w sa A) (h0 : 0 < R.gates.length) (hg : g = gate % R.gates.length) (hgl : g < R.gates.length) (n : Nat) (hn : n ≤ 20) (hn2 : (n : Int) = R.gates[g].a ∨ (R.gates[g].a < 0 ∧ n = 0) ∨ (20 < R.gates[g].a ∧ n = 20)) :
   Calls Tryz.prog 6 #[.agg #[.slice ca R.code.length cc, .slice ga R.gates.length gc, .string mem, .int .i64 R.dep], .int .i64 gate, .slice sa A.length sc] w fun x w' => ∃ v, x = .returned (.tuple #[.int .i64 g, v]) ∧ w'.ownsRow w.heap.size 35 1 v n ((entL A n).map u64I) ∧ Below w.heap.size w w' := by
 have hz : ((R.gates.length : Int) == 0) = false := beq_false_of_ne (by omega)
 have hrm : Int.tmod (gate : Int) (R.gates.length : Int) = (g : Int) := by rw [hg]; rfl
 have hgi : (g : Int) < (R.gates.length : Int) := Int.ofNat_lt.2 hgl
 go_enter Tryz.func6, Tryz.ntmps6
 go_upto_region 1 with fail
 refine wp_world (fun W => At W w.heap.size #[.slice ca R.code.length cc, .slice ga R.gates.length gc, .string mem, .int .i64 R.dep] ∧ Gr w W) ⟨At.new w _ _, (Gr.refl _).alloc _⟩ ?_
 rintro W ⟨hQ, G⟩
 have hks : Hz (w.heap.size < W.heap.size) := Hz.mk hQ.1
 have d1 : W.cell? ⟨w.heap.size, 1, none⟩ = some (.slice ga R.gates.length gc) := hQ.2.1 1
 obtain ⟨gb, goff, rfl, hgb, hgr⟩ := (hP.gr G).gate g hgl
 have d5 : W.cell? ⟨gb, goff + g * 19 + 1, none⟩ = some (.int .i64 R.gates[g].a) := hgr 1 _ rfl
 obtain ⟨ga0, hga⟩ : ∃ z, R.gates[g].a = z := ⟨_, rfl⟩
 rw [hga] at d5 hn2
 replace hA := Hz.mk (hA.gr G)
 replace hg := Hz.mk hg
 replace hgr := Hz.mk hgr
 clear hP hga
 go_upto_region 6 with fail
 replace d1 := Hz.mk d1
 replace d5 := Hz.mk d5
 go_loopw [9, 10] (fun v x wr => ∃ (la : Option Addr) (lc j : Nat), v = .slice la j lc ∧ x = .int .i64 j ∧ j ≤ n ∧ Hz (wr.ownsRow W.heap.size 35 1 (.slice la j lc) j ((entL A j).map u64I)) ∧ Hz (Below W.heap.size W wr)) (fun _ x _ => n - (intOf x).toNat)
 case atStart => exact ⟨none, 0, 0, rfl, rfl, Nat.zero_le _, Hz.mk (World.ownsRow_nil _ _ _ _), Hz.mk (Below.refl _ _)⟩
 case round =>
   obtain ⟨la, lc, j, rfl, rfl, hj, hown, hB⟩ := hrel
   have e1 := (T.cell_of_block (hB.out.block w.heap.size hks.out) 1).trans d1.out
   have e5 := (T.cell_of_block (hB.out.block gb hgb) _).trans d5.out
   by_cases hlt : j < n
   · have q1 : (j : Int) < ga0 := by omega
     have q2 : (j : Int) < 20 := by omega
     by_cases hja : j < A.length
     · have hji : (j : Int) < (A.length : Int) := Int.ofNat_lt.2 hja
       obtain ⟨ab, ao, rfl, hab, hac⟩ := hA.out j hja
       have e7 := (T.cell_of_block (hB.out.block ab hab) _).trans hac
       have hvl : Hz (A.getD j (j : Int) = A[j]) := Hz.mk (by simp [hja])
       go_upto_region 11 with fail
       clear e7
       refine wp_region_lit ?_
       iterate 3 (refine wpList_plain rfl (fun K hK => ?_); go_simp; with_reducible refine hK _ _ ?_; clear hK K; (try simp only [xap]))
       have hX : At (wr.alloc (.cells #[.int .u64 (A[j]'hja)] 35)) wr.heap.size #[.int .u64 (A[j]'hja)] := At.new wr _ _
       have ho2 : (wr.alloc (.cells #[.int .u64 (A[j]'hja)] 35)).ownsRow W.heap.size 35 1 (.slice la j lc) j ((entL A j).map u64I) := hown.out.alloc _
       have hB2 : Hz (Below W.heap.size W (wr.alloc (.cells #[.int .u64 (A[j]'hja)] 35))) := Hz.mk (hB.out.alloc hB.out.size _)
       generalize hVV : wr.alloc (.cells #[.int .u64 (A[j]'hja)] 35) = V at *
       clear hVV
       generalize wr.heap.size = kX at *
       refine wpList_plain rfl (fun K hK => ?_)
       refine wp_append_z _ _ 26 35 (.int .u64 0) 1 8 rfl Tryz.underlying26 (by kernel_rfl) (by kernel_rfl) (by decide) (by decide) W.heap.size (.slice la j lc) j ((entL A j).map u64I) [.int .u64 (A[j]'hja)] (by rfl) ho2 kX (by rfl) hX rfl (by simp [Value.oneCell']) (by omega) hB2.out.size ?_
       intro g9 cap w9 k1 k2 k3
       have hB3 : Hz (Below W.heap.size W w9) := Hz.mk (hB2.out.trans ⟨k2.os, k2.tape, k2.output, k2.size, fun k hk => k2.block k (Nat.lt_of_lt_of_le hk hB2.out.size) (fun e => by have := (ho2.lt k e.symm).1; omega)⟩)
       have k4 : Hz (w9.ownsRow W.heap.size 35 1 (.slice (some ⟨g9, 0, none⟩) (j + 1) cap) (j + 1) ((entL A (j + 1)).map u64I)) := Hz.mk (by rw [entL_succ, List.map_append, hvl.out]; exact k1)
       clear k1 k2 k3 ho2 hX hB2 hB hown e1 e5
       refine hK _ _ ?_
       clear hK K
       try simp only [xap]
       go_wp2_with fail
       refine ⟨⟨_, _, j + 1, rfl, ?_, hlt, k4, hB3⟩, ?_⟩
       · first | rfl | (rw [show wrap64 ((j : Int) + 1) = ((j + 1 : Nat) : Int) by unfold wrap64; omega]) | go_num
       · first | (simp [intOf]; omega) | (rw [show wrap64 ((j : Int) + 1) = ((j + 1 : Nat) : Int) by unfold wrap64; omega]; simp [intOf]; omega)
     · have hji : ¬ (j : Int) < (A.length : Int) := fun q => hja (Int.ofNat_lt.1 q)
       have hwr : IntKind.u64.wrap (j : Int) = (j : Int) := by rw [IntKind.wrap_u64]; omega
       have hvl : Hz (A.getD j (j : Int) = (j : Int)) := Hz.mk (by simp [hja])
       go_upto_region 11 with fail
       refine wp_region_lit ?_
       iterate 3 (refine wpList_plain rfl (fun K hK => ?_); go_simp; with_reducible refine hK _ _ ?_; clear hK K; (try simp only [xap]))
       have hX : At (wr.alloc (.cells #[.int .u64 (j : Int)] 35)) wr.heap.size #[.int .u64 (j : Int)] := At.new wr _ _
       have ho2 : (wr.alloc (.cells #[.int .u64 (j : Int)] 35)).ownsRow W.heap.size 35 1 (.slice la j lc) j ((entL A j).map u64I) := hown.out.alloc _
       have hB2 : Hz (Below W.heap.size W (wr.alloc (.cells #[.int .u64 (j : Int)] 35))) := Hz.mk (hB.out.alloc hB.out.size _)
       generalize hVV : wr.alloc (.cells #[.int .u64 (j : Int)] 35) = V at *
       clear hVV
       generalize wr.heap.size = kX at *
       refine wpList_plain rfl (fun K hK => ?_)
       refine wp_append_z _ _ 26 35 (.int .u64 0) 1 8 rfl Tryz.underlying26 (by kernel_rfl) (by kernel_rfl) (by decide) (by decide) W.heap.size (.slice la j lc) j ((entL A j).map u64I) [.int .u64 (j : Int)] (by rfl) ho2 kX (by rfl) hX rfl (by simp [Value.oneCell']) (by omega) hB2.out.size ?_
       intro g9 cap w9 k1 k2 k3
       have hB3 : Hz (Below W.heap.size W w9) := Hz.mk (hB2.out.trans ⟨k2.os, k2.tape, k2.output, k2.size, fun k hk => k2.block k (Nat.lt_of_lt_of_le hk hB2.out.size) (fun e => by have := (ho2.lt k e.symm).1; omega)⟩)
       have k4 : Hz (w9.ownsRow W.heap.size 35 1 (.slice (some ⟨g9, 0, none⟩) (j + 1) cap) (j + 1) ((entL A (j + 1)).map u64I)) := Hz.mk (by rw [entL_succ, List.map_append, hvl.out]; exact k1)
       clear k1 k2 k3 ho2 hX hB2 hB hown e1 e5
       refine hK _ _ ?_
       clear hK K
       try simp only [xap]
       go_wp2_with fail
       refine ⟨⟨_, _, j + 1, rfl, ?_, hlt, k4, hB3⟩, ?_⟩
       · first | rfl | (rw [show wrap64 ((j : Int) + 1) = ((j + 1 : Nat) : Int) by unfold wrap64; omega]) | go_num
       · first | (simp [intOf]; omega) | (rw [show wrap64 ((j : Int) + 1) = ((j + 1 : Nat) : Int) by unfold wrap64; omega]; simp [intOf]; omega)
   · obtain rfl : j = n := by omega
     have hres := Hz.mk (And.intro (own_monoZ hown.out G.below.size) ((G.below.trans (hB.out.mono G.below.size))))
     by_cases q1 : (j : Int) < ga0
     · have q2 : ¬ (j : Int) < 20 := by omega
       go_wp2_with fail
       go_ret2
       exact ⟨_, rfl, hres.out⟩
     · go_wp2_with fail
       go_ret2
       exact ⟨_, rfl, hres.out⟩
end Z
end Go.Proofs.YtmedafcmfbhjkaaGreat


namespace Go.Proofs.YtmedafcmfbhjkaaGreat
namespace Z
open Go.RowKit
open T (Sep Ob Kp Mf FlIn boxOb)

theorem sep_same {B B' : Nat} {W : World} {l l' : List Ob} (h : Sep B W l) (hS : l'.map Ob.S = l.map Ob.S) (hin : ∀ o ∈ l', o.In W) (hB : B' ≤ B) : Sep B' W l' := by
 refine ⟨hin, ?_, fun o ho k q => ?_⟩
 · have h1 : (l.map Ob.S).Pairwise (fun s t => ∀ k, s k → ¬ t k) := List.pairwise_map.2 h.dis
   rw [← hS] at h1
   exact List.pairwise_map.1 h1
 · have h1 : o.S ∈ l'.map Ob.S := List.mem_map_of_mem ho
   rw [hS] at h1
   obtain ⟨p, hp, e⟩ := List.mem_map.1 h1
   exact Nat.le_trans hB (h.ge p hp k (by rw [e]; exact q))
theorem sep_append {B : Nat} {W : World} {l l' : List Ob} (h : Sep B W l) (h' : Sep B W l') (hd : ∀ o ∈ l, ∀ p ∈ l', ∀ k, o.S k → ¬ p.S k) : Sep B W (l ++ l') := by
 refine ⟨fun o ho => ?_, List.pairwise_append.2 ⟨h.dis, h'.dis, hd⟩, fun o ho => ?_⟩
 · rcases List.mem_append.1 ho with r | r
   · exact h.ins o r
   · exact h'.ins o r
 · rcases List.mem_append.1 ho with r | r
   · exact h.ge o r
   · exact h'.ge o r
section
variable {B B' : Nat} {W W' : World} {a b : Nat} {P P' : Pr} {s s' : Fm} {l : List Ob} {q : Pt}
theorem obs_low (h1 : Sep B W (obs B a P s q ++ l)) (hB : B' ≤ B) : Sep B' W (obs B' a P s q ++ l) := by
 refine sep_same h1 rfl (fun o ho => ?_) hB
 rcases List.mem_append.1 ho with r | r
 · simp only [obs, List.mem_cons, List.not_mem_nil, or_false] at r
   rcases r with rfl | rfl | rfl | rfl | rfl | rfl | rfl
   · exact h1.ins _ (by simp [obs])
   · exact h1.ins _ (by simp [obs])
   · exact own_monoZ (h1.ins (stOb B q.sv s.st) (by simp [obs])) hB
   · exact h1.ins _ (by simp [obs])
   · exact own_monoZ (h1.ins (ouOb B q.ov_ s.out) (by simp [obs])) hB
   · exact own_monoZ (h1.ins (tcOb B q.tv s.tc) (by simp [obs])) hB
   · exact h1.ins _ (by simp [obs])
 · exact h1.ins o (by simp [r])
theorem MIn.both (h : MIn B W a P s l) (h2 : MIn W.heap.size W' b P' s' []) (hb : Below W.heap.size W W') : ∃ q', MIn B W' a P s (obs B b P' s' q' ++ l) := by
 obtain ⟨⟨q, h1⟩, le⟩ := h
 obtain ⟨⟨q', h3⟩, _⟩ := h2
 have h4 := obs_low h3 le
 have hge : ∀ o ∈ obs B b P' s' q', ∀ k, o.S k → W.heap.size ≤ k := fun o ho k r => by
   have e : (obs B b P' s' q').map Ob.S = (obs W.heap.size b P' s' q').map Ob.S := rfl
   have h5 : o.S ∈ (obs B b P' s' q').map Ob.S := List.mem_map_of_mem ho
   rw [e] at h5
   obtain ⟨p, hp, e2⟩ := List.mem_map.1 h5
   exact h3.ge p (by simp [hp]) k (by rw [e2]; exact r)
 rw [List.append_nil] at h4
 have h5 := sep_append (h1.gr hb) h4 (fun o ho p hp k r t => by
   have := hge p hp k t
   have := o.lt W (h1.ins o ho) k r
   omega)
 refine ⟨q', ⟨q, ?_⟩, Nat.le_trans le hb.size⟩
 refine sep_perm h5 ?_
 rw [List.append_assoc]
 exact List.Perm.append_left _ List.perm_append_comm
end
end Z
end Go.Proofs.YtmedafcmfbhjkaaGreat


namespace Go.Proofs.YtmedafcmfbhjkaaGreat
namespace Z
open Go.RowKit
open T (Sep Ob Kp Mf FlIn boxOb)

theorem stepI_cases (P : Pr) (i : Fi) (s : Fm) (C : Fm → Prop)
   (h0 : i.op = 0 → C (stp0 s))
   (h1 : i.op = 1 → C (stp1 i s))
   (h2 : i.op = 2 → C (stp2 i s))
   (h3 : i.op = 3 → C (stp3 i s))
   (h4 : i.op = 4 → C (stp4 i s))
   (h5 : i.op = 5 → C (stp5 i s))
   (h6 : i.op = 6 → C (stp6 i s))
   (h7 : i.op = 7 → C (stp7 i s))
   (h8 : i.op = 8 → C (stp8 i s))
   (h9 : i.op = 9 → C (stp9 i s))
   (h10 : i.op = 10 → C (stp10 i s))
   (h11 : i.op = 11 → C (stp11 i s))
   (h12 : i.op = 12 → C (stp12 i s))
   (h13 : i.op = 13 → C (stp13 i s))
   (h20 : i.op = 20 → C (stp20 i s))
   (h21 : i.op = 21 → C (stp21 i s))
   (h22 : i.op = 22 → C (stp22 i s))
   (h23 : i.op = 23 → C (stp23 i s))
   (h24 : i.op = 24 → C (stp24 i s))
   (h27 : i.op = 27 → C (stp27 i s))
   (h28 : i.op = 28 → C (stp28 i s))
   (h29 : i.op = 29 → C (stp29 i s))
   (h30 : i.op = 30 → C (stp30 i s))
   (h31 : i.op = 31 → C (stp31 P i s))
   (h32 : i.op = 32 → C (stp32 P s))
   (h60 : i.op = 60 → C (stp60 i s))
   (h61 : i.op = 61 → C (stp61 i s))
   (h62 : i.op = 62 → C (stp62 i s))
   (h63 : i.op = 63 → C (stp63 i s))
   (h64 : i.op = 64 → C (stp64 i s))
   (h65 : i.op = 65 → C (stp65 i s))
   (h70 : i.op = 70 → C (stp70 i s))
   (h71 : i.op = 71 → C (stp71 i s))
   (h72 : i.op = 72 → C (stp72 i s))
   (hl : C (s)) : C (stepI P i s) := by
 unfold stepI
 by_cases q0 : i.op = 0
 · rw [if_pos q0]; exact h0 q0
 rw [if_neg q0]
 by_cases q1 : i.op = 1
 · rw [if_pos q1]; exact h1 q1
 rw [if_neg q1]
 by_cases q2 : i.op = 2
 · rw [if_pos q2]; exact h2 q2
 rw [if_neg q2]
 by_cases q3 : i.op = 3
 · rw [if_pos q3]; exact h3 q3
 rw [if_neg q3]
 by_cases q4 : i.op = 4
 · rw [if_pos q4]; exact h4 q4
 rw [if_neg q4]
 by_cases q5 : i.op = 5
 · rw [if_pos q5]; exact h5 q5
 rw [if_neg q5]
 by_cases q6 : i.op = 6
 · rw [if_pos q6]; exact h6 q6
 rw [if_neg q6]
 by_cases q7 : i.op = 7
 · rw [if_pos q7]; exact h7 q7
 rw [if_neg q7]
 by_cases q8 : i.op = 8
 · rw [if_pos q8]; exact h8 q8
 rw [if_neg q8]
 by_cases q9 : i.op = 9
 · rw [if_pos q9]; exact h9 q9
 rw [if_neg q9]
 by_cases q10 : i.op = 10
 · rw [if_pos q10]; exact h10 q10
 rw [if_neg q10]
 by_cases q11 : i.op = 11
 · rw [if_pos q11]; exact h11 q11
 rw [if_neg q11]
 by_cases q12 : i.op = 12
 · rw [if_pos q12]; exact h12 q12
 rw [if_neg q12]
 by_cases q13 : i.op = 13
 · rw [if_pos q13]; exact h13 q13
 rw [if_neg q13]
 by_cases q20 : i.op = 20
 · rw [if_pos q20]; exact h20 q20
 rw [if_neg q20]
 by_cases q21 : i.op = 21
 · rw [if_pos q21]; exact h21 q21
 rw [if_neg q21]
 by_cases q22 : i.op = 22
 · rw [if_pos q22]; exact h22 q22
 rw [if_neg q22]
 by_cases q23 : i.op = 23
 · rw [if_pos q23]; exact h23 q23
 rw [if_neg q23]
 by_cases q24 : i.op = 24
 · rw [if_pos q24]; exact h24 q24
 rw [if_neg q24]
 by_cases q27 : i.op = 27
 · rw [if_pos q27]; exact h27 q27
 rw [if_neg q27]
 by_cases q28 : i.op = 28
 · rw [if_pos q28]; exact h28 q28
 rw [if_neg q28]
 by_cases q29 : i.op = 29
 · rw [if_pos q29]; exact h29 q29
 rw [if_neg q29]
 by_cases q30 : i.op = 30
 · rw [if_pos q30]; exact h30 q30
 rw [if_neg q30]
 by_cases q31 : i.op = 31
 · rw [if_pos q31]; exact h31 q31
 rw [if_neg q31]
 by_cases q32 : i.op = 32
 · rw [if_pos q32]; exact h32 q32
 rw [if_neg q32]
 by_cases q60 : i.op = 60
 · rw [if_pos q60]; exact h60 q60
 rw [if_neg q60]
 by_cases q61 : i.op = 61
 · rw [if_pos q61]; exact h61 q61
 rw [if_neg q61]
 by_cases q62 : i.op = 62
 · rw [if_pos q62]; exact h62 q62
 rw [if_neg q62]
 by_cases q63 : i.op = 63
 · rw [if_pos q63]; exact h63 q63
 rw [if_neg q63]
 by_cases q64 : i.op = 64
 · rw [if_pos q64]; exact h64 q64
 rw [if_neg q64]
 by_cases q65 : i.op = 65
 · rw [if_pos q65]; exact h65 q65
 rw [if_neg q65]
 by_cases q70 : i.op = 70
 · rw [if_pos q70]; exact h70 q70
 rw [if_neg q70]
 by_cases q71 : i.op = 71
 · rw [if_pos q71]; exact h71 q71
 rw [if_neg q71]
 by_cases q72 : i.op = 72
 · rw [if_pos q72]; exact h72 q72
 rw [if_neg q72]
 exact hl
end Z
end Go.Proofs.YtmedafcmfbhjkaaGreat


namespace Go.Proofs.YtmedafcmfbhjkaaGreat
namespace Z
open Go.RowKit
open T (Sep Ob Kp Mf FlIn boxOb)

def M2 (B : Nat) (W : World) (P : Pr) (a : Nat) (s : Fm) (b : Nat) (t : Fm) (l : List Ob) : Prop := ∃ q, MIn B W a P s (obs B b P t q ++ l)
section
variable {B : Nat} {W W' : World} {a b : Nat} {P : Pr} {s s' t : Fm} {l : List Ob}
theorem M2.le (h : M2 B W P a s b t l) : B ≤ W.heap.size := by
 obtain ⟨q, h⟩ := h
 exact h.le
theorem M2.gr (h : M2 B W P a s b t l) (hb : Below W.heap.size W W') : M2 B W' P a s b t l := by
 obtain ⟨q, h⟩ := h
 exact ⟨q, h.gr hb⟩
theorem M2.new (h : M2 B W P a s b t l) (cs : Array Value) (ty : TypeId) : M2 B (W.alloc (.cells cs ty)) P a s b t (boxOb W.heap.size cs :: l) ∧ Below B W (W.alloc (.cells cs ty)) := by
 obtain ⟨q, h⟩ := h
 obtain ⟨h2, hb⟩ := h.new cs ty
 refine ⟨⟨q, ?_⟩, hb⟩
 obtain ⟨⟨q2, h3⟩, le⟩ := h2
 exact ⟨⟨q2, sep_perm h3 (List.Perm.append_left _ List.perm_middle.symm)⟩, le⟩
theorem M2.there (h : M2 B W P a s b t l) (o : Ob) (ho : o ∈ l) : o.In W := by
 obtain ⟨q, h⟩ := h
 exact h.there o (by simp [ho])
theorem M2.side {o o' : Ob} (h : M2 B W P a s b t (o :: l)) (hi : o'.In W') (hk : Kp o.S W W') (hn : ∀ k, o'.S k → o.S k ∨ W.heap.size ≤ k) : M2 B W' P a s b t (o' :: l) ∧ Below B W W' := by
 obtain ⟨q, ⟨q2, h1⟩, le⟩ := h
 have e : ∀ x : Ob, obs B a P s q2 ++ (obs B b P t q ++ x :: l) = (obs B a P s q2 ++ obs B b P t q) ++ x :: l := fun x => (List.append_assoc _ _ _).symm
 rw [e] at h1
 refine ⟨⟨q, ⟨q2, ?_⟩, Nat.le_trans le hk.size⟩, sep_below (l1 := obs B a P s q2 ++ obs B b P t q) (o := o) (l2 := l) h1 hk le⟩
 rw [e]
 exact sep_change (l1 := obs B a P s q2 ++ obs B b P t q) (o := o) (o' := o') (l2 := l) h1 hi hk hn le
theorem M2.call (h : M2 B W P a s b t l) {f : Nat} {args : Array Value} {r : Ending} (hc : ∀ l', MIn B W a P s l' → Calls Tryz.prog f args W fun x w' => x = r ∧ MIn B w' a P s' l' ∧ Below B W w') :
   Calls Tryz.prog f args W fun x w' => x = r ∧ M2 B w' P a s' b t l ∧ Below B W w' := by
 obtain ⟨q, h⟩ := h
 refine (hc _ h).mono ?_
 rintro x w' ⟨e, h1, h2⟩
 exact ⟨e, ⟨q, h1⟩, h2⟩
theorem M2.one (h : M2 B W P a s b t l) : ∃ l', MIn B W a P s l' := by
 obtain ⟨q, h⟩ := h
 exact ⟨_, h⟩
end
end Z
end Go.Proofs.YtmedafcmfbhjkaaGreat
