import Derived.Test.YthfphgjjieddjaaGreatP19
import Derived.Laws.EntriesVeiled
namespace Go.Proofs.YthfphgjjieddjaaGreat
set_option maxRecDepth 100000
set_option maxHeartbeats 40000000
namespace Z
open Go.RowKit
open T (Sep Ob Kp Mf FlIn boxOb)

theorem made_oneZ (z : Value) (n : Nat) : madeCells #[z] n = Array.replicate n z := by
 apply Array.ext
 · simp [madeCells]
 · intro i h1 h2
   simp [madeCells, Nat.mod_one]
theorem make_rowZ {t e : TypeId} {z : Value} {b : Nat} (ht : Tryz.prog.underlying t = some (.slice e)) (hi : (Tryz.prog.info? e).map (fun i => (i.zero, i.size, i.bytes)) = some (some z, 1, b)) (hz : z.cells = #[z]) (hb : b ≤ 64) (n : Nat) (hn : n ≤ 2000000) (w : World) :
   (Instr.makeSlice t (.int .i64 n) (.int .i64 n)).run Tryz.prog w = .ok (.slice (some ⟨w.heap.size, 0, none⟩) n n) (w.alloc (.cells (Array.replicate n z) e)) := by
 obtain ⟨i0, hi0, hz0, hz1, hz2⟩ := T.info_parts' hi
 have hbb : (i0.bytes : Int) * (n : Int) ≤ 281474976710656 := by
   rw [hz2]
   have : b * n ≤ 64 * 2000000 := Nat.mul_le_mul hb hn
   have h : ((b * n : Nat) : Int) ≤ 281474976710656 := by omega
   rwa [Int.natCast_mul] at h
 have h := run_make (P := Tryz.prog) w t e i0 z ht hi0 hz0 .i64 .i64 n n (by omega) (by omega) hbb (by omega)
 rw [hz1, hz, Nat.mul_one, Int.toNat_natCast, made_oneZ] at h
 exact h
structure FRow (w : World) (g n : Nat) (V : Nat → Value) : Prop where
 lt : g < w.heap.size
 at_ : ∀ j, j < n → w.cell? ⟨g, j, none⟩ = some (V j)
 fr : ∀ j, w.frozen? ⟨g, j, none⟩ = false
theorem FRow.new (w : World) (n : Nat) (z : Value) (e : TypeId) : FRow (w.alloc (.cells (Array.replicate n z) e)) w.heap.size n (fun _ => z) := by
 have h := At.new w (Array.replicate n z) e
 exact ⟨h.1, fun j hj => by rw [h.2.1]; simp [hj], h.2.2⟩
theorem FRow.gr {w w1 : World} {g n : Nat} {V : Nat → Value} (h : FRow w g n V) (q : Gr w w1) : FRow w1 g n V :=
 ⟨Nat.lt_of_lt_of_le h.lt q.below.size, fun j hj => (T.cell_of_block (q.below.block g h.lt) j).trans (h.at_ j hj), fun j => (T.frozen_of_block (q.below.block g h.lt) j).trans (h.fr j)⟩
def updF (V : Nat → Value) (j : Nat) (v : Value) : Nat → Value := fun k => if k = j then v else V k
theorem updF_of {V : Nat → Value} {j k : Nat} {v m : Value} (h1 : k = j → v = m) (h2 : k ≠ j → V k = m) : updF V j v k = m := by
 unfold updF
 by_cases e : k = j
 · rw [if_pos e]; exact h1 e
 · rw [if_neg e]; exact h2 e
theorem FRow.set {w : World} {g n : Nat} {V : Nat → Value} (h : FRow w g n V) (j : Nat) (v : Value) (hj : j < n) : FRow (w.setCell ⟨g, j, none⟩ v) g n (updF V j v) := by
 refine ⟨by simpa using h.lt, fun k hk => ?_, fun k => by simpa using h.fr k⟩
 unfold updF
 by_cases e : k = j
 · rw [if_pos e, e]
   exact cs_same (h.at_ j hj)
 · rw [if_neg e, T.cso (fun _ => Ne.symm e)]
   exact h.at_ k hk
theorem FRow.other {w : World} {g n b j : Nat} {V : Nat → Value} (h : FRow w g n V) (v : Value) (hb : b ≠ g) : FRow (w.setCell ⟨b, j, none⟩ v) g n V :=
 ⟨by simpa using h.lt, fun k hk => by rw [T.cso (fun e => absurd e hb)]; exact h.at_ k hk, fun k => by simpa using h.fr k⟩
structure Rdy (W1 wr : World) (g : Nat) (C : List (List Fi)) (k : Nat) (V : Nat → Value) : Prop where
 row : FRow wr g C.length V
 done : ∀ j (_ : j < k) (h2 : j < C.length), ∃ gk, V j = .slice (some ⟨gk, 0, none⟩) C[j].length C[j].length ∧ W1.heap.size ≤ gk ∧ gk ≠ g ∧ gk < wr.heap.size ∧ ∀ i (hi : i < C[j].length), wr.cell? ⟨gk, i, none⟩ = some (methV C[j][i])
 gro : Gr W1 wr
 new : W1.heap.size ≤ g
theorem Rdy.gr {W1 wr W : World} {g k : Nat} {C : List (List Fi)} {V : Nat → Value} (h : Rdy W1 wr g C k V) (q : Gr wr W) : Rdy W1 W g C k V := by
 refine ⟨h.row.gr q, fun j hj h2 => ?_, h.gro.trans q, h.new⟩
 obtain ⟨gk, e1, e2, e3, e4, e5⟩ := h.done j hj h2
 exact ⟨gk, e1, e2, e3, Nat.lt_of_lt_of_le e4 q.below.size, fun i hi => (T.cell_of_block (q.below.block gk e4) i).trans (e5 i hi)⟩
theorem Rdy.lay {W1 wr : World} {g k : Nat} {C : List (List Fi)} {V : Nat → Value} (h : Rdy W1 wr g C k V) (hk : k < C.length) (v : Value) : Rdy W1 (wr.setCell ⟨g, k, none⟩ v) g C k (updF V k v) := by
 refine ⟨h.row.set k v hk, fun j hj h2 => ?_, h.gro.setCell _ _ _ h.new, h.new⟩
 obtain ⟨gk, e1, e2, e3, e4, e5⟩ := h.done j hj h2
 refine ⟨gk, ?_, e2, e3, by simpa using e4, fun i hi => ?_⟩
 · unfold updF; rw [if_neg (by omega)]; exact e1
 · rw [T.cso (fun e => absurd e.symm e3)]; exact e5 i hi
theorem Rdy.put {W1 wr : World} {g k b j : Nat} {C : List (List Fi)} {V : Nat → Value} (h : Rdy W1 wr g C k V) (v : Value) (hb : b ≠ g) (hn : W1.heap.size ≤ b) (ho : ∀ j (_ : j < k) (h2 : j < C.length), ∀ gk, V j = .slice (some ⟨gk, 0, none⟩) C[j].length C[j].length → gk ≠ b) : Rdy W1 (wr.setCell ⟨b, j, none⟩ v) g C k V := by
 refine ⟨h.row.other v hb, fun j hj h2 => ?_, h.gro.setCell _ _ _ hn, h.new⟩
 obtain ⟨gk, e1, e2, e3, e4, e5⟩ := h.done j hj h2
 refine ⟨gk, e1, e2, e3, by simpa using e4, fun i hi => ?_⟩
 rw [T.cso (fun e => absurd e.symm (ho j hj h2 gk e1))]
 exact e5 i hi
theorem readied_ok (C : List (List Fi)) (ca : Option Addr) (cc : Nat) (w : World) (hC : ∀ k (h : k < C.length), ∃ (b off : Nat) (ra : Option Addr) (rc : Nat), ca = some ⟨b, off, none⟩ ∧ b < w.heap.size ∧ w.cell? ⟨b, off + k, none⟩ = some (.slice ra C[k].length rc) ∧ T.EIn 5 Fi.vals w ra C[k]) (ok : ∀ r ∈ C, r.length ≤ 400 ∧ ∀ i ∈ r, Named i.op) (hl : C.length ≤ 16) :
   Calls Tryz.prog 29 #[.slice ca C.length cc] w fun x w' => ∃ V, x = .returned (.slice (some ⟨w.heap.size, 0, none⟩) C.length C.length) ∧ Rdy w w' w.heap.size C C.length V := by
 replace hC := Hz.mk hC
 replace ok := Hz.mk ok
 have hlenC : C.length ≤ 1000000 := by omega
 have mk1 := make_rowZ (t := 75) (e := 99) (z := .slice none 0 0) (b := 24) Tryz.underlying75 (by kernel_rfl) rfl (by decide) C.length (by omega)
 have mk2 := fun n => make_rowZ (t := 99) (e := 100) (z := .nilFunc) (b := 8) Tryz.underlying99 (by kernel_rfl) rfl (by decide) n
 go_enter Tryz.func29, Tryz.ntmps29
 go_upto_region 3 with fail
 refine wp_world (fun W => Rdy w W w.heap.size C 0 (fun _ => .slice none 0 0)) ⟨FRow.new w C.length _ _, fun j hj => absurd hj (Nat.not_lt_zero j), (Gr.refl w).alloc _, Nat.le_refl _⟩ ?_
 intro W hR0
 replace hR0 := Hz.mk hR0
 have hg9 : w.heap.size = w.heap.size := rfl
 generalize hg : w.heap.size = g at hR0 ⊢
 clear hg9 mk1
 go_loopw [13] (fun x wr => ∃ (k : Nat) (V : Nat → Value), x = .int .i64 k ∧ k ≤ C.length ∧ Hz (Rdy w wr g C k V)) (fun x _ => C.length - (intOf x).toNat)
 case atStart => exact ⟨0, _, rfl, Nat.zero_le _, hR0⟩
 case round =>
   clear hR0
   obtain ⟨k, V, rfl, hk, hR⟩ := hrel
   by_cases hkl : k < C.length
   · have hk1 : (k : Int) < (C.length : Int) := Int.ofNat_lt.2 hkl
     have hrow := ok.out _ (List.getElem_mem hkl)
     obtain ⟨b, off, ra, rc, rfl, hb, hcc, hE⟩ := hC.out k hkl
     have c1 : wr.cell? ⟨b, off + k, none⟩ = some (.slice ra C[k].length rc) := (T.cell_of_block (hR.out.gro.below.block b hb) _).trans hcc
     have hE2 := Hz.mk hE
     have f1 := hR.out.row.fr k
     have c2 := hR.out.row.at_ k hkl
     have hlt1 := hR.out.row.lt
     have hne : wr.heap.size ≠ g := by omega
     have hRa := (hR.out.lay hkl (.slice (some ⟨wr.heap.size, 0, none⟩) C[k].length C[k].length)).gr ((Gr.refl _).alloc (.cells (Array.replicate C[k].length Value.nilFunc) 100))
     have hFa := FRow.new (wr.setCell ⟨g, k, none⟩ (.slice (some ⟨wr.heap.size, 0, none⟩) C[k].length C[k].length)) C[k].length .nilFunc 100
     rw [World.size_setCell] at hFa
     have hold : Hz (∀ j (_ : j < k) (h2 : j < C.length), ∀ gk, updF V k (.slice (some ⟨wr.heap.size, 0, none⟩) C[k].length C[k].length) j = .slice (some ⟨gk, 0, none⟩) C[j].length C[j].length → gk ≠ wr.heap.size) := Hz.mk (fun j hj h2 gk e => by
       obtain ⟨gk', e1, _, _, e4, _⟩ := hR.out.done j hj h2
       unfold updF at e
       rw [if_neg (by omega), e1] at e
       injection e with e
       injection e with e
       injection e with e
       omega)
     have hnew : w.heap.size ≤ wr.heap.size := hR.out.gro.below.size
     replace hRa := Hz.mk hRa
     replace hFa := Hz.mk hFa
     have mk3 := mk2 C[k].length (by omega)
     clear hcc hE
     go_upto_region 6 with fail
     clear mk3 c1 c2 f1 hlt1
     clear hR
     have hR := hRa
     have hF := hFa
     clear hRa hFa
     have hlen : C[k].length ≤ 1000000 := by omega
     generalize World.alloc _ _ = W6 at *
     generalize wr.heap.size = gk at *
     have hV2 : updF V k (.slice (some ⟨gk, 0, none⟩) C[k].length C[k].length) k = .slice (some ⟨gk, 0, none⟩) C[k].length C[k].length := by unfold updF; rw [if_pos rfl]
     generalize updF V k (.slice (some ⟨gk, 0, none⟩) C[k].length C[k].length) = V2 at *
     go_upto_region 7 with fail
     have R0 := hR
     have F0 := hF
     clear hR hF
     go_loopw [26] (fun x wr => ∃ (j : Nat) (U : Nat → Value), x = .int .i64 j ∧ j ≤ C[k].length ∧ Hz (Rdy w wr g C k V2) ∧ Hz (FRow wr gk C[k].length U) ∧ Hz (∀ j2 (_ : j2 < j) (h3 : j2 < C[k].length), U j2 = methV C[k][j2])) (fun x _ => C[k].length - (intOf x).toNat)
     case atStart => exact ⟨0, _, rfl, Nat.zero_le _, R0, F0, Hz.mk (fun j2 h2 => absurd h2 (Nat.not_lt_zero j2))⟩
     case round =>
       clear R0 F0
       obtain ⟨j, U, rfl, hj, hR, hF, hV⟩ := hrel
       by_cases hlt : j < C[k].length
       · have hj1 : (j : Int) < (C[k].length : Int) := Int.ofNat_lt.2 hlt
         obtain ⟨b2, off2, rfl, hb2, hr2⟩ := eat5 hE2.out (hR.out.gro) j hlt
         have hok := Hz.mk (hrow.2 _ (List.getElem_mem hlt))
         generalize hi9 : C[k][j] = i at *
         have c0 : wr.cell? ⟨b2, off2 + j * 5, none⟩ = some (.int .u8 i.op) := hr2 0 _ rfl
         have c1 : wr.cell? ⟨b2, off2 + j * 5 + 1, none⟩ = some (.int .i64 i.a) := hr2 1 _ rfl
         have c2 : wr.cell? ⟨b2, off2 + j * 5 + 1 + 1, none⟩ = some (.int .i64 i.b) := hr2 2 _ rfl
         have c3 : wr.cell? ⟨b2, off2 + j * 5 + 1 + 1 + 1, none⟩ = some (.int .i64 i.c) := hr2 3 _ rfl
         have c4 : wr.cell? ⟨b2, off2 + j * 5 + 1 + 1 + 1 + 1, none⟩ = some (.int .u64 i.i) := hr2 4 _ rfl
         go_upto_region 9 with fail
         refine wp_world (fun W => At W wr.heap.size #[.int .u8 i.op, .int .i64 i.a, .int .i64 i.b, .int .i64 i.c, .int .u64 i.i] ∧ Gr wr W) ⟨At.new wr _ _, (Gr.refl _).alloc _⟩ ?_
         rintro W9 ⟨hA, g9⟩
         have hkb : gk ≠ wr.heap.size := by have := hF.out.lt; omega
         have hkb2 : g ≠ wr.heap.size := by have := hR.out.row.lt; omega
         replace hR := Hz.mk (hR.out.gr g9)
         replace hF := Hz.mk (hF.out.gr g9)
         replace hA := Hz.mk hA
         generalize wr.heap.size = kb at *
         clear c0 c1 c2 c3 c4 hr2 hb2 g9
         have KS : Hz (∀ X, Rdy w X g C k V2 → At X kb #[.int .u8 i.op, .int .i64 i.a, .int .i64 i.b, .int .i64 i.c, .int .u64 i.i] → X.cell? ⟨g, k, none⟩ = some (.slice (some ⟨gk, 0, none⟩) C[k].length C[k].length) ∧ X.rangeAt kb 0 (Fi.vals i)) := Hz.mk (fun X q1 q2 => ⟨by rw [q1.row.at_ k hkl, hV2], fun n v e => by rw [Nat.zero_add]; exact (q2.2.1 n).trans (by simpa [Fi.vals] using e)⟩)
         have g0 : Gr W9 W9.drew := (Gr.refl W9).drew
         refine wp_region_held_drew (S := (fun W => W.cell? ⟨g, k, none⟩ = some (.slice (some ⟨gk, 0, none⟩) C[k].length C[k].length) ∧ W.rangeAt kb 0 (Fi.vals i))) (by kernel_rfl) (KS.out _ (hR.out.gr g0) (hA.out.gr g0)) (fun hHeld => ?_)
         refine xso 0 ?_ rfl ?_ (xso 1 ?_ rfl ?_ (xso 2 ?_ rfl ?_ (xso 3 ?_ rfl ?_ (xso 4 ?_ rfl ?_ ?_))))
         iterate 5 (rotate_left; focus ((try simp only [xap]); intro w hSw; (try dsimp only at hSw); go_simp; first | done | with_reducible rfl))
         try simp only [xap]
         refine xtk 5 rfl (yieldsIf_load_mid (by rfl) _ _ rfl _ _ rfl _ _ (fun _ h => h.2) Tryz.underlying42 rfl (by kernel_rfl)) ?_
         try simp only [xap]
         refine xrd 6 rfl (fun K hK => ?_)
         go_simp
         go_wp2_with (refine (method_ok i _ hok.out).mono ?_; rintro r U1 ⟨rfl, gg⟩; have g1 := g0.trans gg; clear gg g0 hHeld)
         refine hK.out _ _ (KS.out _ (hR.out.gr g1) (hA.out.gr g1)) (fun hHeld => ?_)
         clear hK K
         try simp only [xap]
         refine xso 7 ?_ rfl ?_ ?_
         rotate_left
         · intro w hSw; (try dsimp only at hSw); go_simp; first | done | with_reducible rfl
         try simp only [xap]
         refine xrd 8 rfl (fun K hK => ?_)
         have hF1 := hF.out.gr g1
         have c9 := hF1.at_ j hlt
         have f9 := hF1.fr j
         have hF2 := Hz.mk (hF1.set j (methV i) hlt)
         have hR2 := Hz.mk ((hR.out.gr g1).put (j := j) (methV i) hne hnew hold.out)
         have hA2 := Hz.mk ((hA.out.gr g1).set_other (j := j) (methV i) hkb)
         have hlt9 := hF1.lt
         unfold methV at c9 hF2 hR2 hA2 ⊢
         go_simp
         clear hHeld
         refine hK.out _ _ (KS.out _ hR2.out hA2.out) (fun hHeld => ?_)
         clear hK K
         try simp only [Act.put]
         refine xdn ?_ _
         clear hHeld c9 f9 hF1 hlt9 g1 hF hR hA KS
         generalize World.setCell _ _ _ = U9 at *
         go_wp2_with fail
         refine ⟨⟨j + 1, _, ?_, hlt, hR2, hF2, Hz.mk (fun j2 h2 h3 => ?_)⟩, ?_⟩
         · first | rfl | rw [next_wY hlt hlen] | go_num
         · exact updF_of (fun e => by subst e; rw [hi9]; rfl) (fun e => hV.out j2 (by omega) h3)
         · first | exact next_mY hlt | (rw [next_wY hlt hlen]; exact next_mY hlt)
       · have hj1 : ¬ (j : Int) < (C[k].length : Int) := fun q => hlt (Int.ofNat_lt.1 q)
         obtain rfl : j = C[k].length := by omega
         have hR2 : Hz (Rdy w wr g C (k + 1) V2) := Hz.mk ⟨hR.out.row, fun j2 h2 h3 => by
           by_cases e : j2 = k
           · subst e
             exact ⟨gk, hV2, hnew, hne, hF.out.lt, fun n hn => by rw [hF.out.at_ n hn, hV.out n hn hn]⟩
           · exact hR.out.done j2 (by omega) h3, hR.out.gro, hR.out.new⟩
         go_wp2_with fail
         refine ⟨⟨k + 1, V2, ?_, hkl, hR2⟩, ?_⟩
         · first | rfl | rw [next_wY hkl hlenC] | go_num
         · first | exact next_mY hkl | (rw [next_wY hkl hlenC]; exact next_mY hkl)
   · have hk1 : ¬ (k : Int) < (C.length : Int) := fun q => hkl (Int.ofNat_lt.1 q)
     obtain rfl : k = C.length := by omega
     go_wp2_with fail
     go_ret
     exact ⟨rfl, V, hR.out⟩
end Z
end Go.Proofs.YthfphgjjieddjaaGreat
