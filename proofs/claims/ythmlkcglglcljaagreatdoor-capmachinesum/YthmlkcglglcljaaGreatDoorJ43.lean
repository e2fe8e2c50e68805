import Derived.Test.YthmlkcglglcljaaGreatDoorJ42
import Derived.Test.YthmlkcglglcljaaGreatDoorJ40
namespace Go.Proofs.YthmlkcglglcljaaGreatDoor
namespace C
open Go.RowKit
open T (Sep Ob Kp Mf TgIn boxOb Fm Tc Ed Vl Cp Bx tgOb mRow updV flt)

end C
end Go.Proofs.YthmlkcglglcljaaGreatDoor


namespace Go.Proofs.YthmlkcglglcljaaGreatDoor
namespace C
open Go.RowKit
open T (Sep Ob Kp Mf TgIn boxOb Fm Tc Ed Vl Cp Bx tgOb mRow updV flt)

end C
end Go.Proofs.YthmlkcglglcljaaGreatDoor


namespace Go.Proofs.YthmlkcglglcljaaGreatDoor
namespace C
open Go.RowKit
open T (Sep Ob Kp Mf TgIn boxOb Fm Tc Ed Vl Cp Bx tgOb mRow)

theorem sep_same {B B' : Nat} {W : World} {l l' : List Ob} (h : Sep B W l) (hS : l'.map Ob.S = l.map Ob.S) (hin : ∀ o ∈ l', o.In W) (hB : B' ≤ B) : Sep B' W l' := by
 refine ⟨hin, ?_, fun o ho k q => ?_⟩
 · have h1 : (l.map Ob.S).Pairwise (fun s t => ∀ k, s k → ¬ t k) := List.pairwise_map.2 h.dis
   rw [← hS] at h1
   exact List.pairwise_map.1 h1
 · have h1 : o.S ∈ l'.map Ob.S := List.mem_map_of_mem ho
   rw [hS] at h1
   obtain ⟨p, hp, e⟩ := List.mem_map.1 h1
   exact Nat.le_trans hB (h.ge p hp k (by rw [e]; exact q))
theorem sep_append {B : Nat} {W : World} {l l' : List Ob} (h : Sep B W l) (h' : Sep B W l') (hd : ∀ o ∈ l, ∀ p ∈ l', ∀ k, o.S k → ¬ p.S k) : Sep B W (l ++ l') := by
 refine ⟨fun o ho => ?_, List.pairwise_append.2 ⟨h.dis, h'.dis, hd⟩, fun o ho => ?_⟩
 · rcases List.mem_append.1 ho with r | r
   · exact h.ins o r
   · exact h'.ins o r
 · rcases List.mem_append.1 ho with r | r
   · exact h.ge o r
   · exact h'.ge o r
theorem own_monoC {w : World} {lo lo2 e s n : Nat} {v : Value} {xs : List Value} (h : w.ownsRow lo e s v n xs) (hl : lo2 ≤ lo) : w.ownsRow lo2 e s v n xs := by
 refine ⟨h.1, ?_⟩
 rcases h.2 with q | ⟨g, cap, cur, e1, e2, e3⟩
 · exact .inl q
 · exact .inr ⟨g, cap, cur, e1, Nat.le_trans hl e2, e3⟩
section
variable {B B' : Nat} {W W' : World} {a b : Nat} {P P' : PImg} {s s' t : Ms} {l : List Ob} {q : Pt}
theorem obs_low (h1 : Sep B W (obs B a P s q ++ l)) (hB : B' ≤ B) : Sep B' W (obs B' a P s q ++ l) := by
 refine sep_same h1 rfl (fun o ho => ?_) hB
 rcases List.mem_append.1 ho with r | r
 · simp only [obs, List.mem_cons, List.not_mem_nil, or_false] at r
   rcases r with rfl | rfl | rfl | rfl | rfl | rfl | rfl
   · exact h1.ins _ (by simp [obs])
   · exact h1.ins _ (by simp [obs])
   · exact own_monoC (h1.ins (stOb B q.sv s.st) (by simp [obs])) hB
   · exact h1.ins _ (by simp [obs])
   · exact own_monoC (h1.ins (ouOb B q.ov_ s.out) (by simp [obs])) hB
   · exact own_monoC (h1.ins (tcOb B q.tv s.tou) (by simp [obs])) hB
   · exact h1.ins _ (by simp [obs])
 · exact h1.ins o (by simp [r])
def M2 (B : Nat) (W : World) (P : PImg) (a : Nat) (s : Ms) (b : Nat) (t : Ms) (l : List Ob) : Prop := ∃ q, PgOk P q ∧ MIn B W a P s (obs B b P t q ++ l)
theorem MIn.both (h : MIn B W a P s l) (h2 : MIn B' W' b P t []) (hB : W.heap.size ≤ B') (hb : Below W.heap.size W W') : M2 B W' P a s b t l := by
 obtain ⟨⟨q, h1, hp⟩, le⟩ := h
 obtain ⟨⟨q', h3, hp'⟩, _⟩ := h2
 have h4 := obs_low h3 (Nat.le_trans le hB)
 have hge : ∀ o ∈ obs B b P t q', ∀ k, o.S k → W.heap.size ≤ k := fun o ho k r => by
   have e : (obs B b P t q').map Ob.S = (obs B' b P t q').map Ob.S := rfl
   have h5 : o.S ∈ (obs B b P t q').map Ob.S := List.mem_map_of_mem ho
   rw [e] at h5
   obtain ⟨p, hp, e2⟩ := List.mem_map.1 h5
   exact Nat.le_trans hB (h3.ge p (by simp [hp]) k (by rw [e2]; exact r))
 rw [List.append_nil] at h4
 have h5 := sep_append (h1.gr hb) h4 (fun o ho p hp k r t => by
   have := hge p hp k t
   have := o.lt W (h1.ins o ho) k r
   omega)
 refine ⟨q', hp', ⟨q, ?_, hp⟩, Nat.le_trans le hb.size⟩
 refine sep_perm h5 ?_
 rw [List.append_assoc]
 exact List.Perm.append_left _ List.perm_append_comm
theorem M2.turn (h : M2 B W P a s b t l) : M2 B W P b t a s l := by
 obtain ⟨q, hq, ⟨q2, h1, hq2⟩, le⟩ := h
 exact ⟨q2, hq2, ⟨q, sep_perm h1 (List.perm_append_comm_assoc _ _ _), hq⟩, le⟩
theorem M2.le (h : M2 B W P a s b t l) : B ≤ W.heap.size := by
 obtain ⟨q, _, h⟩ := h
 exact h.le
theorem M2.new (h : M2 B W P a s b t l) (cs : Array Value) (ty : TypeId) : M2 B (W.alloc (.cells cs ty)) P a s b t (boxOb W.heap.size cs :: l) ∧ Below B W (W.alloc (.cells cs ty)) := by
 obtain ⟨q, hq, h⟩ := h
 obtain ⟨h2, hb⟩ := h.new cs ty
 refine ⟨⟨q, hq, ?_⟩, hb⟩
 obtain ⟨⟨q2, h3, h4⟩, le⟩ := h2
 exact ⟨⟨q2, sep_perm h3 (List.Perm.append_left _ List.perm_middle.symm), h4⟩, le⟩
theorem M2.there (h : M2 B W P a s b t l) (o : Ob) (ho : o ∈ l) : o.In W := by
 obtain ⟨q, _, h⟩ := h
 exact h.there o (by simp [ho])
theorem M2.call (h : M2 B W P a s b t l) {f : Nat} {args : Array Value} {r : Ending} (hc : ∀ l', MIn B W a P s l' → Calls Tryz.prog f args W fun x w' => x = r ∧ MIn B w' a P s' l' ∧ Below B W w') :
   Calls Tryz.prog f args W fun x w' => x = r ∧ M2 B w' P a s' b t l ∧ Below B W w' := by
 obtain ⟨q, hq, h⟩ := h
 refine (hc _ h).mono ?_
 rintro x w' ⟨e, h1, h2⟩
 exact ⟨e, ⟨q, hq, h1⟩, h2⟩
theorem M2.one (h : M2 B W P a s b t l) : ∃ l', MIn B W a P s l' := by
 obtain ⟨q, _, h⟩ := h
 exact ⟨_, h⟩
end
theorem own_cells {w : World} {lo e k n : Nat} {v : Value} {xs : List Value} (h : w.ownsRow lo e k v n xs) (h0 : 0 < n) : ∃ g cap, v = .slice (some ⟨g, 0, none⟩) n cap ∧ g < w.heap.size ∧ ∀ j u, xs[j]? = some u → w.cell? ⟨g, j, none⟩ = some u := by
 have hlt := h.lt
 rcases h.2 with ⟨_, h9⟩ | ⟨g, cap, cur, rfl, hb, hg, hc1, hc2, hc3, hc4⟩
 · omega
 · refine ⟨g, cap, rfl, (hlt g rfl).2, fun j u q => ?_⟩
   have hj : j < n * k := by have := (List.getElem?_eq_some_iff.1 q).1; rwa [h.1] at this
   rw [← hc4, List.getElem?_take_of_lt hj] at q
   have : w.cell? ⟨g, j, none⟩ = cur[j]? := by simp [World.cell?, hg]
   rw [this, ← q]
   simp
theorem own_tin {w : World} {lo n : Nat} {v : Value} {L : List Tc} (h : w.ownsRow lo 78 3 v n (L.flatMap Tc.row)) (hn : n = L.length) : ∃ a c, v = .slice a L.length c ∧ T.EIn 3 Tc.row w a L := by
 obtain ⟨a, c, e⟩ := own_slZ h
 subst hn
 refine ⟨a, c, e, fun i hi => ?_⟩
 obtain ⟨g, cap, e2, hg, hc⟩ := own_cells h (by omega)
 rw [e] at e2
 injection e2 with e3
 refine ⟨g, 0, e3, hg, fun j u hj => ?_⟩
 rw [Nat.zero_add]
 refine hc _ _ ?_
 have hj3 : j < 3 := by
   have := (List.getElem?_eq_some_iff.1 hj).1
   exact this
 rw [flat_at' (k := 3) (fun _ => rfl) L i hi j hj3]
 exact hj
theorem tcs_any (B : Nat) (W : World) (a : Nat) (P : PImg) (s : Ms) (l : List Ob) (h : MIn B W a P s l) (hl : s.tou.length ≤ 1000000) :
   Calls Tryz.prog 15 #[.pointer (some ⟨a, 0, none⟩)] W fun x w' => ∃ va c, x = .returned (.slice va s.tou.length c) ∧ T.EIn 3 Tc.row w' va s.tou ∧ Bl W w' := by
 refine (tou_any B a P s l W h hl).mono ?_
 rintro x w' ⟨v, rfl, h1, h2⟩
 obtain ⟨va, c, rfl, h3⟩ := own_tin h1 rfl
 exact ⟨va, c, rfl, h3, h2⟩
end C
end Go.Proofs.YthmlkcglglcljaaGreatDoor
