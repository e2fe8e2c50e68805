import Derived.Test.YtkmikpofjoppgaaGreatDoorF44
import Derived.Test.YtkmikpofjoppgaaGreatDoorF42
import Derived.Laws.StructEq
namespace Go.Proofs.YtkmikpofjoppgaaGreatDoor
namespace C
open Go.RowKit
open T (Sep Ob Kp Mf TgIn boxOb Fm Tc Ed Vl Cp Bx tgOb mRow)

theorem sep_same {B B' : Nat} {W : World} {l l' : List Ob} (h : Sep B W l) (hS : l'.map Ob.S = l.map Ob.S) (hin : ∀ o ∈ l', o.In W) (hB : B' ≤ B) : Sep B' W l' := by
 refine ⟨hin, ?_, fun o ho k q => ?_⟩
 · have h1 : (l.map Ob.S).Pairwise (fun s t => ∀ k, s k → ¬ t k) := List.pairwise_map.2 h.dis
   rw [← hS] at h1
   exact List.pairwise_map.1 h1
 · have h1 : o.S ∈ l'.map Ob.S := List.mem_map_of_mem ho
   rw [hS] at h1
   obtain ⟨p, hp, e⟩ := List.mem_map.1 h1
   exact Nat.le_trans hB (h.ge p hp k (by rw [e]; exact q))
theorem sep_append {B : Nat} {W : World} {l l' : List Ob} (h : Sep B W l) (h' : Sep B W l') (hd : ∀ o ∈ l, ∀ p ∈ l', ∀ k, o.S k → ¬ p.S k) : Sep B W (l ++ l') := by
 refine ⟨fun o ho => ?_, List.pairwise_append.2 ⟨h.dis, h'.dis, hd⟩, fun o ho => ?_⟩
 · rcases List.mem_append.1 ho with r | r
   · exact h.ins o r
   · exact h'.ins o r
 · rcases List.mem_append.1 ho with r | r
   · exact h.ge o r
   · exact h'.ge o r
theorem own_monoC {w : World} {lo lo2 e s n : Nat} {v : Value} {xs : List Value} (h : w.ownsRow lo e s v n xs) (hl : lo2 ≤ lo) : w.ownsRow lo2 e s v n xs := by
 refine ⟨h.1, ?_⟩
 rcases h.2 with q | ⟨g, cap, cur, e1, e2, e3⟩
 · exact .inl q
 · exact .inr ⟨g, cap, cur, e1, Nat.le_trans hl e2, e3⟩
section
variable {B B' : Nat} {W W' : World} {a b : Nat} {P P' : PImg} {s s' t : Ms} {l : List Ob} {q : Pt}
theorem obs_low (h1 : Sep B W (obs B a P s q ++ l)) (hB : B' ≤ B) : Sep B' W (obs B' a P s q ++ l) := by
 refine sep_same h1 rfl (fun o ho => ?_) hB
 rcases List.mem_append.1 ho with r | r
 · simp only [obs, List.mem_cons, List.not_mem_nil, or_false] at r
   rcases r with rfl | rfl | rfl | rfl | rfl | rfl | rfl
   · exact h1.ins _ (by simp [obs])
   · exact h1.ins _ (by simp [obs])
   · exact own_monoC (h1.ins (stOb B q.sv s.st) (by simp [obs])) hB
   · exact h1.ins _ (by simp [obs])
   · exact own_monoC (h1.ins (ouOb B q.ov_ s.out) (by simp [obs])) hB
   · exact own_monoC (h1.ins (tcOb B q.tv s.tou) (by simp [obs])) hB
   · exact h1.ins _ (by simp [obs])
 · exact h1.ins o (by simp [r])
def M2 (B : Nat) (W : World) (P : PImg) (a : Nat) (s : Ms) (b : Nat) (t : Ms) (l : List Ob) : Prop := ∃ q, PgOk P q ∧ MIn B W a P s (obs B b P t q ++ l)
theorem MIn.both (h : MIn B W a P s l) (h2 : MIn B' W' b P t []) (hB : W.heap.size ≤ B') (hb : Below W.heap.size W W') : M2 B W' P a s b t l := by
 obtain ⟨⟨q, h1, hp⟩, le⟩ := h
 obtain ⟨⟨q', h3, hp'⟩, _⟩ := h2
 have h4 := obs_low h3 (Nat.le_trans le hB)
 have hge : ∀ o ∈ obs B b P t q', ∀ k, o.S k → W.heap.size ≤ k := fun o ho k r => by
   have e : (obs B b P t q').map Ob.S = (obs B' b P t q').map Ob.S := rfl
   have h5 : o.S ∈ (obs B b P t q').map Ob.S := List.mem_map_of_mem ho
   rw [e] at h5
   obtain ⟨p, hp, e2⟩ := List.mem_map.1 h5
   exact Nat.le_trans hB (h3.ge p (by simp [hp]) k (by rw [e2]; exact r))
 rw [List.append_nil] at h4
 have h5 := sep_append (h1.gr hb) h4 (fun o ho p hp k r t => by
   have := hge p hp k t
   have := o.lt W (h1.ins o ho) k r
   omega)
 refine ⟨q', hp', ⟨q, ?_, hp⟩, Nat.le_trans le hb.size⟩
 refine sep_perm h5 ?_
 rw [List.append_assoc]
 exact List.Perm.append_left _ List.perm_append_comm
theorem M2.turn (h : M2 B W P a s b t l) : M2 B W P b t a s l := by
 obtain ⟨q, hq, ⟨q2, h1, hq2⟩, le⟩ := h
 exact ⟨q2, hq2, ⟨q, sep_perm h1 (List.perm_append_comm_assoc _ _ _), hq⟩, le⟩
theorem M2.le (h : M2 B W P a s b t l) : B ≤ W.heap.size := by
 obtain ⟨q, _, h⟩ := h
 exact h.le
theorem M2.gr (h : M2 B W P a s b t l) (hb : Below W.heap.size W W') : M2 B W' P a s b t l := by
 obtain ⟨q, hq, h⟩ := h
 exact ⟨q, hq, h.gr hb⟩
theorem M2.new (h : M2 B W P a s b t l) (cs : Array Value) (ty : TypeId) : M2 B (W.alloc (.cells cs ty)) P a s b t (boxOb W.heap.size cs :: l) ∧ Below B W (W.alloc (.cells cs ty)) := by
 obtain ⟨q, hq, h⟩ := h
 obtain ⟨h2, hb⟩ := h.new cs ty
 refine ⟨⟨q, hq, ?_⟩, hb⟩
 obtain ⟨⟨q2, h3, h4⟩, le⟩ := h2
 exact ⟨⟨q2, sep_perm h3 (List.Perm.append_left _ List.perm_middle.symm), h4⟩, le⟩
theorem M2.add (h : M2 B W P a s b t l) (o : Ob) (hi : o.In W') (hn : ∀ k, o.S k → W.heap.size ≤ k) (hb : Below W.heap.size W W') : M2 B W' P a s b t (o :: l) := by
 obtain ⟨q, hq, h⟩ := h
 obtain ⟨⟨q2, h3, h4⟩, le⟩ := h.add o hi hn hb
 exact ⟨q, hq, ⟨q2, sep_perm h3 (List.Perm.append_left _ List.perm_middle.symm), h4⟩, le⟩
theorem M2.there (h : M2 B W P a s b t l) (o : Ob) (ho : o ∈ l) : o.In W := by
 obtain ⟨q, _, h⟩ := h
 exact h.there o (by simp [ho])
theorem M2.side {o o' : Ob} (h : M2 B W P a s b t (o :: l)) (hi : o'.In W') (hk : Kp o.S W W') (hn : ∀ k, o'.S k → o.S k ∨ W.heap.size ≤ k) : M2 B W' P a s b t (o' :: l) ∧ Below B W W' := by
 obtain ⟨q, hq, ⟨q2, h1, hq2⟩, le⟩ := h
 have e : ∀ x : Ob, obs B a P s q2 ++ (obs B b P t q ++ x :: l) = (obs B a P s q2 ++ obs B b P t q) ++ x :: l := fun x => (List.append_assoc _ _ _).symm
 rw [e] at h1
 refine ⟨⟨q, hq, ⟨q2, ?_, hq2⟩, Nat.le_trans le hk.size⟩, sep_below (l1 := obs B a P s q2 ++ obs B b P t q) (o := o) (l2 := l) h1 hk le⟩
 rw [e]
 exact sep_change (l1 := obs B a P s q2 ++ obs B b P t q) (o := o) (o' := o') (l2 := l) h1 hi hk hn le
theorem M2.drop {o : Ob} (h : M2 B W P a s b t (o :: l)) : M2 B W P a s b t l := by
 obtain ⟨q, hq, ⟨q2, h1, hq2⟩, le⟩ := h
 refine ⟨q, hq, ⟨q2, ?_, hq2⟩, le⟩
 have e : obs B a P s q2 ++ (obs B b P t q ++ o :: l) = (obs B a P s q2 ++ obs B b P t q) ++ o :: l := (List.append_assoc _ _ _).symm
 rw [e] at h1
 have h2 := sep_tail (sep_perm h1 List.perm_middle)
 rwa [List.append_assoc] at h2
theorem M2.call (h : M2 B W P a s b t l) {f : Nat} {args : Array Value} {r : Ending} (hc : ∀ l', MIn B W a P s l' → Calls Tryz.prog f args W fun x w' => x = r ∧ MIn B w' a P s' l' ∧ Below B W w') :
   Calls Tryz.prog f args W fun x w' => x = r ∧ M2 B w' P a s' b t l ∧ Below B W w' := by
 obtain ⟨q, hq, h⟩ := h
 refine (hc _ h).mono ?_
 rintro x w' ⟨e, h1, h2⟩
 exact ⟨e, ⟨q, hq, h1⟩, h2⟩
theorem M2.one (h : M2 B W P a s b t l) : ∃ l', MIn B W a P s l' := by
 obtain ⟨q, _, h⟩ := h
 exact ⟨_, h⟩
end
def WIn (w : World) (a : Option Addr) (L : List Int) : Prop := ∀ i (h : i < L.length), ∃ b off : Nat, a = some ⟨b, off, none⟩ ∧ b < w.heap.size ∧ w.cell? ⟨b, off + i, none⟩ = some (.int .u64 L[i])
theorem WIn.bl {w W : World} {a : Option Addr} {L : List Int} (h : WIn w a L) (g : Bl w W) : WIn W a L := fun i hi => by
 obtain ⟨b, off, e1, e2, e3⟩ := h i hi
 exact ⟨b, off, e1, Nat.lt_of_lt_of_le e2 g.size, (T.cell_of_block (g.block b e2) _).trans e3⟩
theorem eat3 {w W : World} {a : Option Addr} {L : List Tc} (h : T.EIn 3 Tc.row w a L) (g : Bl w W) (j : Nat) (hj : j < L.length) : ∃ b off : Nat, a = some ⟨b, off, none⟩ ∧ b < W.heap.size ∧ W.rangeAt b (off + j * 3) L[j].row := by
 obtain ⟨b, off, e1, e2, e3⟩ := h j hj
 exact ⟨b, off, e1, Nat.lt_of_lt_of_le e2 g.size, fun i v q => (T.cell_of_block (g.block b e2) _).trans (e3 i v q)⟩
theorem own_cells {w : World} {lo e k n : Nat} {v : Value} {xs : List Value} (h : w.ownsRow lo e k v n xs) (h0 : 0 < n) : ∃ g cap, v = .slice (some ⟨g, 0, none⟩) n cap ∧ g < w.heap.size ∧ ∀ j u, xs[j]? = some u → w.cell? ⟨g, j, none⟩ = some u := by
 have hlt := h.lt
 rcases h.2 with ⟨_, h9⟩ | ⟨g, cap, cur, rfl, hb, hg, hc1, hc2, hc3, hc4⟩
 · omega
 · refine ⟨g, cap, rfl, (hlt g rfl).2, fun j u q => ?_⟩
   have hj : j < n * k := by have := (List.getElem?_eq_some_iff.1 q).1; rwa [h.1] at this
   rw [← hc4, List.getElem?_take_of_lt hj] at q
   have : w.cell? ⟨g, j, none⟩ = cur[j]? := by simp [World.cell?, hg]
   rw [this, ← q]
   simp
theorem own_win {w : World} {lo n : Nat} {v : Value} {L : List Int} (h : w.ownsRow lo 25 1 v n (L.map u64I)) (hn : n = L.length) : ∃ a c, v = .slice a L.length c ∧ WIn w a L := by
 obtain ⟨a, c, e⟩ := own_slZ h
 subst hn
 refine ⟨a, c, e, fun i hi => ?_⟩
 obtain ⟨g, cap, e2, hg, hc⟩ := own_cells h (by omega)
 rw [e] at e2
 injection e2 with e3
 refine ⟨g, 0, e3, hg, ?_⟩
 rw [Nat.zero_add]
 refine hc i _ ?_
 simp [u64I, hi]
theorem own_tin {w : World} {lo n : Nat} {v : Value} {L : List Tc} (h : w.ownsRow lo 73 3 v n (L.flatMap Tc.row)) (hn : n = L.length) : ∃ a c, v = .slice a L.length c ∧ T.EIn 3 Tc.row w a L := by
 obtain ⟨a, c, e⟩ := own_slZ h
 subst hn
 refine ⟨a, c, e, fun i hi => ?_⟩
 obtain ⟨g, cap, e2, hg, hc⟩ := own_cells h (by omega)
 rw [e] at e2
 injection e2 with e3
 refine ⟨g, 0, e3, hg, fun j u hj => ?_⟩
 rw [Nat.zero_add]
 refine hc _ _ ?_
 have hj3 : j < 3 := by
   have := (List.getElem?_eq_some_iff.1 hj).1
   exact this
 rw [flat_at' (k := 3) (fun _ => rfl) L i hi j hj3]
 exact hj
theorem outs_any (B : Nat) (W : World) (a : Nat) (P : PImg) (s : Ms) (l : List Ob) (h : MIn B W a P s l) (hl : s.out.length ≤ 1000000) :
   Calls Tryz.prog 10 #[.pointer (some ⟨a, 0, none⟩)] W fun x w' => ∃ va c, x = .returned (.slice va s.out.length c) ∧ WIn w' va s.out ∧ Bl W w' := by
 refine (out_any B a P s l W h hl).mono ?_
 rintro x w' ⟨v, rfl, h1, h2⟩
 obtain ⟨va, c, rfl, h3⟩ := own_win h1 rfl
 exact ⟨va, c, rfl, h3, h2⟩
theorem tcs_any (B : Nat) (W : World) (a : Nat) (P : PImg) (s : Ms) (l : List Ob) (h : MIn B W a P s l) (hl : s.tou.length ≤ 1000000) :
   Calls Tryz.prog 11 #[.pointer (some ⟨a, 0, none⟩)] W fun x w' => ∃ va c, x = .returned (.slice va s.tou.length c) ∧ T.EIn 3 Tc.row w' va s.tou ∧ Bl W w' := by
 refine (tou_any B a P s l W h hl).mono ?_
 rintro x w' ⟨v, rfl, h1, h2⟩
 obtain ⟨va, c, rfl, h3⟩ := own_tin h1 rfl
 exact ⟨va, c, rfl, h3, h2⟩
end C
end Go.Proofs.YtkmikpofjoppgaaGreatDoor


namespace Go.Proofs.YtkmikpofjoppgaaGreatDoor
set_option maxRecDepth 100000
set_option maxHeartbeats 40000000
namespace C
open Go.RowKit
open T (Sep Ob Kp Mf TgIn boxOb Fm Tc Ed Vl Cp Bx tgOb mRow)

theorem sameW_self (A : List Int) (sa sb : Option Addr) (ca cb : Nat) (w : World) (hA : WIn w sa A) (hB : WIn w sb A) (hl : A.length ≤ 1000000) :
   Calls Tryz.prog 14 #[.slice sa A.length ca, .slice sb A.length cb] w fun x w' => x = .returned (.bool true) ∧ Bl w w' := by
 replace hA := Hz.mk hA
 replace hB := Hz.mk hB
 go_enter Tryz.func14, Tryz.ntmps14
 go_upto_region 4 with fail
 go_loopw [5] (fun x wr => ∃ j : Nat, x = .int .i64 j ∧ j ≤ A.length ∧ Hz (Bl w wr)) (fun x _ => A.length - (intOf x).toNat)
 case atStart => exact ⟨0, rfl, Nat.zero_le _, Hz.mk (Bl.refl _)⟩
 case round =>
   obtain ⟨j, rfl, hjl, G⟩ := hrel
   by_cases hj : j < A.length
   · have hj1 : (j : Int) < (A.length : Int) := Int.ofNat_lt.2 hj
     obtain ⟨b1, o1, rfl, k1, c1⟩ := (hA.out.bl G.out) j hj
     obtain ⟨b2, o2, rfl, k2, c2⟩ := (hB.out.bl G.out) j hj
     have GD : Bl wr wr.drew := (Bl.refl wr).drew
     go_upto_region 6 with fail
     refine wp_region_held_drew (S := (fun W => W.cell? ⟨b1, o1 + j, none⟩ = some (.int .u64 (A[j]'hj)) ∧ W.cell? ⟨b2, o2 + j, none⟩ = some (.int .u64 (A[j]'hj)))) (by kernel_rfl) (⟨(T.cell_of_block (GD.block b1 k1) _).trans c1, (T.cell_of_block (GD.block b2 k2) _).trans c2⟩) (fun hHeld => ?_)
     refine xso 0 ?_ rfl ?_ (xso 1 ?_ rfl ?_ (xso 2 ?_ rfl ?_ (xso 3 ?_ rfl ?_ (xso 4 ?_ rfl ?_ (xso 5 ?_ rfl ?_ (xso 6 ?_ rfl ?_ (xso 7 ?_ rfl ?_ (xso 8 ?_ rfl ?_ ?_))))))))
     iterate 9 (rotate_left; focus ((try simp only [xap]); intro w hSw; (try dsimp only at hSw); go_simp; first | done | with_reducible rfl))
     try simp only [xap]
     refine xdn ?_ _
     clear hHeld
     have G4 := Hz.mk (Bl.trans G.out GD)
     clear G GD
     go_wp2_with fail
     refine ⟨⟨j + 1, ?_, hj, G4⟩, ?_⟩
     · first | rfl | (rw [show wrap64 ((j : Int) + 1) = ((j + 1 : Nat) : Int) by unfold wrap64; omega]) | go_num
     · first | (simp [intOf]; omega) | (rw [show wrap64 ((j : Int) + 1) = ((j + 1 : Nat) : Int) by unfold wrap64; omega]; simp [intOf]; omega)
   · have hj1 : ¬ (j : Int) < (A.length : Int) := fun q => hj (Int.ofNat_lt.1 q)
     go_wp2_with fail
     go_ret
     exact ⟨rfl, G.out⟩
theorem sameT_self (A : List Tc) (sa sb : Option Addr) (ca cb : Nat) (w : World) (hA : T.EIn 3 Tc.row w sa A) (hB : T.EIn 3 Tc.row w sb A) (hl : A.length ≤ 1000000) :
   Calls Tryz.prog 15 #[.slice sa A.length ca, .slice sb A.length cb] w fun x w' => x = .returned (.bool true) ∧ Bl w w' := by
 replace hA := Hz.mk hA
 replace hB := Hz.mk hB
 go_enter Tryz.func15, Tryz.ntmps15
 go_upto_region 4 with fail
 go_loopw [5] (fun x wr => ∃ j : Nat, x = .int .i64 j ∧ j ≤ A.length ∧ Hz (Bl w wr)) (fun x _ => A.length - (intOf x).toNat)
 case atStart => exact ⟨0, rfl, Nat.zero_le _, Hz.mk (Bl.refl _)⟩
 case round =>
   obtain ⟨j, rfl, hjl, G⟩ := hrel
   by_cases hj : j < A.length
   · have hj1 : (j : Int) < (A.length : Int) := Int.ofNat_lt.2 hj
     obtain ⟨b1, o1, rfl, k1, c1⟩ := eat3 hA.out G.out j hj
     obtain ⟨b2, o2, rfl, k2, c2⟩ := eat3 hB.out G.out j hj
     have GD : Bl wr wr.drew := (Bl.refl wr).drew
     obtain ⟨x, hx⟩ : ∃ x, A[j] = x := ⟨_, rfl⟩
     rw [hx] at c1 c2
     replace hx := Hz.mk hx
     go_upto_region 6 with fail
     refine wp_region_held_drew (S := (fun W => W.cell? ⟨b1, o1 + j * 3, none⟩ = some (.bool x.store) ∧ W.cell? ⟨b1, o1 + j * 3 + 1, none⟩ = some (.int .u64 x.addr) ∧ W.cell? ⟨b1, o1 + j * 3 + 1 + 1, none⟩ = some (.int .u64 x.size) ∧ W.cell? ⟨b2, o2 + j * 3, none⟩ = some (.bool x.store) ∧ W.cell? ⟨b2, o2 + j * 3 + 1, none⟩ = some (.int .u64 x.addr) ∧ W.cell? ⟨b2, o2 + j * 3 + 1 + 1, none⟩ = some (.int .u64 x.size))) (by kernel_rfl) (⟨(T.cell_of_block (GD.block b1 k1) _).trans (c1 0 _ rfl), (T.cell_of_block (GD.block b1 k1) _).trans (c1 1 _ rfl), (T.cell_of_block (GD.block b1 k1) _).trans (c1 2 _ rfl), (T.cell_of_block (GD.block b2 k2) _).trans (c2 0 _ rfl), (T.cell_of_block (GD.block b2 k2) _).trans (c2 1 _ rfl), (T.cell_of_block (GD.block b2 k2) _).trans (c2 2 _ rfl)⟩) (fun hHeld => ?_)
     refine xso 0 ?_ rfl ?_ (xso 1 ?_ rfl ?_ (xso 2 ?_ rfl ?_ (xso 3 ?_ rfl ?_ (xso 4 ?_ rfl ?_ (xso 5 ?_ rfl ?_ (xso 6 ?_ rfl ?_ (xso 7 ?_ rfl ?_ (xso 8 ?_ rfl ?_ ?_))))))))
     iterate 9 (rotate_left; focus ((try simp only [xap]); intro w hSw; (try dsimp only at hSw); go_simp; first | done | with_reducible rfl))
     try simp only [xap]
     refine xdn ?_ _
     clear hHeld
     have G4 := Hz.mk (Bl.trans G.out GD)
     clear G GD
     go_wp2_with fail
     refine ⟨⟨j + 1, ?_, hj, G4⟩, ?_⟩
     · first | rfl | (rw [show wrap64 ((j : Int) + 1) = ((j + 1 : Nat) : Int) by unfold wrap64; omega]) | go_num
     · first | (simp [intOf]; omega) | (rw [show wrap64 ((j : Int) + 1) = ((j + 1 : Nat) : Int) by unfold wrap64; omega]; simp [intOf]; omega)
   · have hj1 : ¬ (j : Int) < (A.length : Int) := fun q => hj (Int.ofNat_lt.1 q)
     go_wp2_with fail
     go_ret
     exact ⟨rfl, G.out⟩
end C
end Go.Proofs.YtkmikpofjoppgaaGreatDoor


namespace Go.Proofs.YtkmikpofjoppgaaGreatDoor
set_option maxRecDepth 100000
set_option maxHeartbeats 40000000
namespace C
open Go.RowKit
open T (Sep Ob Kp Mf TgIn boxOb Fm Tc Ed Vl Cp Bx tgOb mRow regRow regRow_at regRow_len Vl.row_len)

theorem reg_ext (r : Nat → Vl) (i : Nat) (hi : i < 16) : List.take 7 (List.drop (i * 7) (regRow r 16)) = (r i).row := by
 refine List.ext_getElem? fun j => ?_
 by_cases hj : j < 7
 · rw [List.getElem?_take_of_lt hj, List.getElem?_drop, regRow_at r 16 _ (by omega), show (i * 7 + j) / 7 = i by omega, show (i * 7 + j) % 7 = j by omega]
 · rw [List.getElem?_take_eq_none (by omega), List.getElem?_eq_none (by rw [Vl.row_len]; omega)]
theorem part_v (r : Nat → Vl) (i : Nat) (hi : i < 16) (W : World) : (part 35 (regRow r 16).toArray (i * 7)).run Tryz.prog W = .ok (.agg (r i).row.toArray) W := by
 have h := reg_ext r i hi
 unfold part
 simp [go_sem]
 exact h
theorem val_in (d : Nat) (v : Vl) (W : World) : (Op.equalIn (d + 6) 35 (.agg v.row.toArray) (.agg v.row.toArray)).run Tryz.prog W = .ok true W := by
 obtain ⟨g, n, b, e, c, p, s⟩ := v
 simp [go_sem, Vl.row]
theorem items_v (d : Nat) (r : Nat → Vl) (W : World) : ∀ is : List Nat, (∀ i ∈ is, i < 16) → (Op.eqItems (d + 6) 35 7 (regRow r 16).toArray (regRow r 16).toArray is).run Tryz.prog W = .ok true W
 | [], _ => by simp [Op.eqItems]
 | i :: is, h => by
   have hi := h i (List.mem_cons_self ..)
   simp only [Op.eqItems, Sem.run_bind, part_v r i hi, Result.andThen_ok, val_in d (r i) W]
   simpa using items_v d r W is (fun j hj => h j (List.mem_cons_of_mem _ hj))
theorem arr_in (dd : Nat) (r : Nat → Vl) (W : World) : (Op.equalIn (dd + 7) 36 (.agg (regRow r 16).toArray) (.agg (regRow r 16).toArray)).run Tryz.prog W = .ok true W := by
 have hi := items_v dd r W (List.range 16) (fun i hi => by simpa using hi)
 have ha := run_equalIn_array (P := Tryz.prog) W (dd + 6) (regRow r 16).toArray (regRow r 16).toArray Tryz.underlying36 (e := 35) rfl
 rw [show Tryz.prog.cellsOf 35 = 7 by kernel_rfl, hi] at ha
 exact ha
theorem sn_in (dd : Nat) (s : Ms) (W : World) : (Op.equalIn (dd + 8) 38 (.agg (snR s).toArray) (.agg (snR s).toArray)).run Tryz.prog W = .ok true W := by
 have ha := arr_in dd s.at_.regs W
 have hl := regRow_len s.at_.regs 16
 unfold snR
 generalize regRow s.at_.regs 16 = R at *
 have ht : R.take 112 = R := List.take_of_length_le (by omega)
 simp [go_sem, ha, ht]
theorem sn_neq (s : Ms) (W : World) : (binOp .neq 38 (.agg (snR s).toArray) (.agg (snR s).toArray)).run Tryz.prog W = .ok (.bool false) W := by
 rw [run_neq_struct, sn_in 9992 s W]
 rfl
end C
end Go.Proofs.YtkmikpofjoppgaaGreatDoor


namespace Go.Proofs.YtkmikpofjoppgaaGreatDoor
namespace C
open Go.RowKit
open T (Sep Ob Kp Mf TgIn boxOb Fm Tc Ed Vl Cp Bx tgOb mRow updV flt)

theorem run_alloc_sn (W : World) : (Instr.alloc 38 true (.tuple #[])).run Tryz.prog W = .ok (.pointer (some ⟨W.heap.size, 0, none⟩)) (W.alloc (.cells (snR zS).toArray 38)) := by
 have : (Instr.alloc 38 true (.tuple #[])).run Tryz.prog W = .ok (.pointer (some ⟨W.heap.size, 0, none⟩)) (W.alloc (.cells Tryz.zeroCells38 38)) := by kernel_rfl
 rw [this, show Tryz.zeroCells38 = (snR zS).toArray by rw [← zero_sn]]
theorem wp_alloc_sn {o : Oper} {a : Act} {K : Act → World → Prop} {Q : Exit → Act → World → Prop} {w : World} (ho : o.op = .alloc 38) (h : K (a.put o.dst (.pointer (some ⟨w.heap.size, 0, none⟩))) (w.alloc (.cells (snR zS).toArray 38))) : o.wp Tryz.prog a w K Q := by
 unfold Oper.wp execOp
 simp only [ho, run_alloc_sn, Sem.run_bind, Sem.run_pure, Result.andThen_ok]
 exact h
end C
end Go.Proofs.YtkmikpofjoppgaaGreatDoor
