import Derived.Test.YtbichnngepjpnaaGreatP24
/-
  Stage 13, fastvm: what lies beside a machine.
-/
namespace Go.Proofs.YtbichnngepjpnaaGreat
namespace Z
open Go.RowKit
open T (Sep Ob Kp Mf FlIn boxOb)

theorem sep_perm {B : Nat} {W : World} {l l' : List Ob} (h : Sep B W l) (p : l.Perm l') : Sep B W l' :=
  ⟨fun o ho => h.ins o (p.mem_iff.2 ho), (List.Perm.pairwise_iff (fun q k hb ha => q k ha hb) p).1 h.dis, fun o ho => h.ge o (p.mem_iff.2 ho)⟩
theorem sep_tail {B : Nat} {W : World} {o : Ob} {l : List Ob} (h : Sep B W (o :: l)) : Sep B W l :=
  ⟨fun p hp => h.ins p (List.mem_cons_of_mem _ hp), (List.pairwise_cons.1 h.dis).2, fun p hp => h.ge p (List.mem_cons_of_mem _ hp)⟩
section
variable {B : Nat} {W W' : World} {a : Nat} {P : Pr} {s : Fm} {l : List Ob}
theorem MIn.add (h : MIn B W a P s l) (o : Ob) (hi : o.In W') (hn : ∀ k, o.S k → W.heap.size ≤ k) (hb : Below W.heap.size W W') : MIn B W' a P s (o :: l) := by
  obtain ⟨⟨q, h1⟩, le⟩ := h
  exact ⟨⟨q, sep_perm (h1.add o hi hn hb le) List.perm_middle.symm⟩, Nat.le_trans le hb.size⟩
theorem MIn.drop {o : Ob} (h : MIn B W a P s (o :: l)) : MIn B W a P s l := by
  obtain ⟨⟨q, h1⟩, le⟩ := h
  exact ⟨⟨q, sep_tail (sep_perm h1 List.perm_middle)⟩, le⟩
theorem MIn.swap {o p : Ob} (h : MIn B W a P s (o :: p :: l)) : MIn B W a P s (p :: o :: l) := by
  obtain ⟨⟨q, h1⟩, le⟩ := h
  exact ⟨⟨q, sep_perm h1 (List.Perm.append_left _ (.swap _ _ _))⟩, le⟩
theorem MIn.new (h : MIn B W a P s l) (cs : Array Value) (t : TypeId) : MIn B (W.alloc (.cells cs t)) a P s (boxOb W.heap.size cs :: l) ∧ Below B W (W.alloc (.cells cs t)) :=
  ⟨h.add (boxOb W.heap.size cs) (At.new W cs t) (fun k q => by have : k = W.heap.size := q; omega) ((Below.refl _ W).alloc (Nat.le_refl _) _), ((Below.refl _ W).alloc (Nat.le_refl _) _).mono h.le⟩
/-- Another thing beside it has changed. -/
theorem MIn.side {o o' : Ob} (h : MIn B W a P s (o :: l)) (hi : o'.In W') (hk : Kp o.S W W') (hn : ∀ k, o'.S k → o.S k ∨ W.heap.size ≤ k) : MIn B W' a P s (o' :: l) ∧ Below B W W' := by
  obtain ⟨⟨q, h1⟩, le⟩ := h
  exact ⟨⟨⟨q, sep_change (l1 := obs B a P s q) (o := o) (o' := o') (l2 := l) h1 hi hk hn le⟩, Nat.le_trans le hk.size⟩, sep_below (l1 := obs B a P s q) (o := o) (l2 := l) h1 hk le⟩
end
end Z
end Go.Proofs.YtbichnngepjpnaaGreat


/-
  Stage 13, fastvm: what is at hand, as a whole; the stack.
-/
namespace Go.Proofs.YtbichnngepjpnaaGreat
namespace Z
open Go.RowKit
open T (Sep Ob Kp Mf FlIn boxOb)

theorem Fr.at0 (f : Fr) (j : Nat) (h : j < 18) : ∃ v, f.vals[j]? = some v := ⟨f.vals[j]'(by rw [Fr.len]; exact h), by simp⟩
theorem Bx.hand {w : World} {a : Nat} {x : Fx} (h : Bx w a x) : w.rangeAt a 4 (Fr.vals ⟨x.g, x.p, x.r⟩) := fun j v q => by
  have hj : j < 18 := by have := (List.getElem?_eq_some_iff.1 q).1; rwa [Fr.len] at this
  have hc := h.at_ (4 + j) (by omega)
  rw [hc, ← q]
  by_cases h2 : j < 2
  · match j, h2 with
    | 0, _ => rfl
    | 1, _ => rfl
  · rw [show 4 + j = 6 + (j - 2) by omega, Fx.reg x (j - 2) (by omega), show j = 2 + (j - 2) by omega, Fr.reg _ (j - 2) (by omega), show 2 + (j - 2) - 2 = j - 2 by omega]
/-- What is at hand is stored as a whole. -/
def Fx.hand (x : Fx) (f : Fr) : Fx := { x with g := f.g, p := f.p, r := f.r }
theorem Bx.there4 {w : World} {a : Nat} {x : Fx} (h : Bx w a x) : w.there a 4 18 := fun j hj => ⟨by rw [h.at_ (4 + j) (by omega)]; rfl, h.fr _⟩
theorem Bx.setHand {w : World} {a : Nat} {x : Fx} (h : Bx w a x) (f : Fr) : Bx (w.setCells a 4 f.vals) a (x.hand f) := by
  have hin : ∀ j (hj : j < f.vals.length), (w.setCells a 4 f.vals).cell? ⟨a, 4 + j, none⟩ = some f.vals[j] := World.cell?_setCells_in a f.vals 4 w (fun j hj => (h.there4 j (by rwa [Fr.len] at hj)).1)
  have hout : ∀ j, j < 4 ∨ 22 ≤ j → (w.setCells a 4 f.vals).cell? ⟨a, j, none⟩ = w.cell? ⟨a, j, none⟩ := fun j hj => World.cell?_setCells_out a f.vals 4 w ⟨a, j, none⟩ (fun _ _ => by rw [Fr.len]; omega)
  have ho : ∀ j, j < 29 → (j < 4 ∨ 22 ≤ j) → (x.hand f).at j = x.at j → (w.setCells a 4 f.vals).cell? ⟨a, j, none⟩ = some ((x.hand f).at j) := fun j h1 h2 h3 => by rw [hout j h2, h3]; exact h.at_ j h1
  refine ⟨by rw [setCells_size]; exact h.lt, fx_cases (P := fun j => (w.setCells a 4 f.vals).cell? ⟨a, j, none⟩ = some ((x.hand f).at j)) (ho 0 (by omega) (by omega) rfl) (ho 1 (by omega) (by omega) rfl) (ho 2 (by omega) (by omega) rfl) (ho 3 (by omega) (by omega) rfl) ?_ ?_ (fun i hi => ?_) (ho 22 (by omega) (by omega) rfl) (ho 23 (by omega) (by omega) rfl) (ho 24 (by omega) (by omega) rfl) (ho 25 (by omega) (by omega) rfl) (ho 26 (by omega) (by omega) rfl) (ho 27 (by omega) (by omega) rfl) (ho 28 (by omega) (by omega) rfl), fun j => by rw [World.frozen?_setCells]; exact h.fr j⟩
  · exact hin 0 (by rw [Fr.len]; omega)
  · exact hin 1 (by rw [Fr.len]; omega)
  · have := hin (2 + i) (by rw [Fr.len]; omega)
    rw [show 4 + (2 + i) = 6 + i by omega] at this
    rw [this, Fx.reg _ i hi]
    have e := Fr.reg f i hi
    rw [List.getElem?_eq_getElem (by rw [Fr.len]; omega)] at e
    exact e
theorem build_frs (f : Fr) (W : World) : (Instr.buildSlice 70 1 #[(0, .agg (Fr.vals f).toArray)]).run Tryz.prog W = .ok (.slice (some ⟨W.heap.size, 0, none⟩) 1 1) (W.alloc (.cells (Fr.vals f).toArray 69)) := by kernel_rfl
theorem wp_build_frs {o : Oper} {a : Act} {K : Act → World → Prop} {Q : Exit → Act → World → Prop} {w : World} (x : Operand) (ho : o.op = .buildSlice 70 1 #[(0, x)]) (f : Fr) (hx : a.eval x = .agg (Fr.vals f).toArray)
    (h : K (a.put o.dst (.slice (some ⟨w.heap.size, 0, none⟩) 1 1)) (w.alloc (.cells (Fr.vals f).toArray 69))) : o.wp Tryz.prog a w K Q := by
  unfold Oper.wp execOp
  simp only [ho, List.map_toArray, List.map_cons, List.map_nil, hx, build_frs, Sem.run_bind, Sem.run_pure, Result.andThen_ok]
  exact h
theorem own_pop {w : World} {lo e k n : Nat} {v : Value} {xs ys : List Value} {a : Option Addr} {c : Nat} (h : w.ownsRow lo e k v (n + 1) xs) (hv : v = .slice a (n + 1) c) (hy : ys = xs.take (n * k)) : w.ownsRow lo e k (.slice a n c) n ys := by
  subst hv
  rcases h.2 with ⟨_, h9⟩ | ⟨g, cap, cur, e1, hb, hg, hc1, hc2, hc3, hc4⟩
  · omega
  · injection e1 with e1 e2 e3
    subst e1 e3
    have hx := h.1
    have hle : n * k ≤ (n + 1) * k := Nat.mul_le_mul_right k (by omega)
    refine ⟨by rw [hy, List.length_take, hx]; omega, .inr ⟨g, c, cur, rfl, hb, hg, by omega, hc2, hc3, ?_⟩⟩
    rw [hy, ← hc4, List.take_take, Nat.min_eq_left hle]
section
variable {B : Nat} {W : World} {a : Nat} {P : Pr} {s : Fm} {l : List Ob}
theorem kp_sets4 (w : World) (b : Nat) (vs : List Value) (o : Nat) : Kp (fun k => k = b) w (w.setCells b o vs) := by
  induction vs generalizing w o with
  | nil => exact Kp.refl _ w
  | cons v r ih => exact (Kp.set (S := fun k => k = b) w ⟨b, o, none⟩ v rfl).trans (ih (w.setCell ⟨b, o, none⟩ v) (o + 1)) (fun _ q => .inl q)
/-- What is at hand is another frame. -/
theorem MIn.hand (h : MIn B W a P s l) (f : Fr) : MIn B (W.setCells a 4 f.vals) a P { s with g := f.g, p := f.p, r := f.r } l ∧ Below B W (W.setCells a 4 f.vals) :=
  h.box (s' := { s with g := f.g, p := f.p, r := f.r }) ⟨rfl, rfl, rfl, rfl, rfl⟩ (fun _ hb => hb.setHand f) (kp_sets4 W a f.vals 4)
theorem MIn.there4 (h : MIn B W a P s l) : W.there a 4 18 := by
  obtain ⟨q, hb⟩ := h.bx
  exact hb.there4
theorem MIn.handAt (h : MIn B W a P s l) : W.rangeAt a 4 (Fr.vals ⟨s.g, s.p, s.r⟩) := by
  obtain ⟨q, hb⟩ := h.bx
  exact hb.hand
theorem frs_len (L : List Fr) : (L.flatMap Fr.vals).length = L.length * 18 := flat_len Fr.len L
/-- The topmost frame, and the stack without it. -/
theorem MIn.top (h : MIn B W a P s l) (L : List Fr) (t : Fr) (hs : s.st = L ++ [t]) : ∃ g c, W.cell? ⟨a, 22, none⟩ = some (.slice (some ⟨g, 0, none⟩) (L.length + 1) c) ∧ L.length + 1 ≤ c ∧ g < W.heap.size ∧ W.frozen? ⟨a, 22, none⟩ = false ∧ W.rangeAt g (L.length * 18) t.vals ∧
    (MIn B (W.setCell ⟨a, 22, none⟩ (.slice (some ⟨g, 0, none⟩) L.length c)) a P { s with st := L } l ∧ Below B W (W.setCell ⟨a, 22, none⟩ (.slice (some ⟨g, 0, none⟩) L.length c))) := by
  obtain ⟨⟨q, h1⟩, le⟩ := h
  have hb := h1.ins (bxOb a (bxOf P s q)) (by simp [obs])
  have hO : W.ownsRow B 69 18 q.sv s.st.length (s.st.flatMap Fr.vals) := h1.ins (stOb B q.sv s.st) (by simp [obs])
  have hlt := hO.lt
  rw [hs] at hO
  rw [List.length_append] at hO
  obtain ⟨ta, tk, etv⟩ := own_slZ hO
  have hpop := own_pop (n := L.length) (ys := L.flatMap Fr.vals) hO etv (by rw [List.flatMap_append, List.take_append_of_le_length (by rw [frs_len]; exact Nat.le_refl _), List.take_of_length_le (by rw [frs_len]; exact Nat.le_refl _)])
  rcases hO.2 with ⟨_, h9⟩ | ⟨g, cap, cur, e1, hbb, hg, hc1, hc2, hc3, hc4⟩
  · simp at h9
  · rw [etv] at e1
    injection e1 with e1 e2 e3
    subst e1 e3
    have hgl : g < W.heap.size := (hlt g (by rw [etv]; rfl)).2
    refine ⟨g, tk, by have := hb.at_ 22 (by omega); rw [show (bxOf P s q).at 22 = q.sv from rfl, etv] at this; exact this, hc1, hgl, hb.fr 22, fun j v qj => ?_, ?_⟩
    · have hj : j < 18 := by have := (List.getElem?_eq_some_iff.1 qj).1; rwa [Fr.len] at this
      have hf := flat_at' (f := Fr.vals) Fr.len (L ++ [t]) L.length (by simp) j hj
      rw [List.getElem_append_right (by omega)] at hf
      simp only [Nat.sub_self, List.getElem_cons_zero] at hf
      rw [qj, ← hc4, List.getElem?_take_of_lt (by simp; omega)] at hf
      have : W.cell? ⟨g, L.length * 18 + j, none⟩ = cur[L.length * 18 + j]? := by simp [World.cell?, hg]
      rw [this, ← hf]
      simp
    · have h2 := sep_change (W' := W) (l1 := [bxOb a (bxOf P s q), flOb q.F q.mp s.m]) (o := stOb B q.sv s.st) (o' := stOb B (.slice (some ⟨g, 0, none⟩) L.length tk) L) (l2 := inOb q.iv s.inp :: ouOb B q.ov_ s.out :: tcOb B q.tv s.tc :: pgOb q.SP q.cv q.gv P :: l) h1 hpop (Kp.refl _ W) (fun k r => .inl (by
        show q.sv.ownBlock = some k
        rw [etv]
        exact r)) le
      obtain ⟨h3, b3⟩ := sep_box (bxOf P s q) (bxOf P { s with st := L } { q with sv := .slice (some ⟨g, 0, none⟩) L.length tk }) h2 (.slice (some ⟨g, 0, none⟩) L.length tk) 22 (fun hb => hb.sv _) le
      exact ⟨⟨⟨{ q with sv := .slice (some ⟨g, 0, none⟩) L.length tk }, h3⟩, Nat.le_trans le b3.size⟩, b3⟩
end
end Z
end Go.Proofs.YtbichnngepjpnaaGreat


/-
  Stage 13, fastvm: what goes through a gate.
-/
namespace Go.Proofs.YtbichnngepjpnaaGreat
namespace Z
open Go.RowKit
open T (Sep Ob Kp Mf FlIn boxOb)

set_option maxRecDepth 100000 in
set_option maxHeartbeats 4000000 in
theorem handed_any (a n : Nat) (w : World) (hn : n ≤ 15) : Calls Tryz.prog 100 #[.pointer (some ⟨a, 0, none⟩), .int .i64 n] w fun x w' => x = .returned (.slice (some ⟨a, 7, none⟩) n 15) ∧ w' = w := by
  have h1 : (n : Int) ≤ 15 := by omega
  have h2 : (1 : Int) ≤ 1 + (n : Int) := by omega
  have h3 : 1 + (n : Int) ≤ 16 := by omega
  have h4 : (1 + (n : Int)).toNat - 1 = n := by omega
  go_enter Tryz.func100, Tryz.ntmps100
  go_wp2_with fail
  go_ret
  exact ⟨rfl, rfl⟩
set_option maxRecDepth 100000 in
set_option maxHeartbeats 4000000 in
theorem first_none (a : Option Addr) (c : Nat) (w : World) : Calls Tryz.prog 101 #[.slice a 0 c] w fun x w' => x = .returned (.int .u64 0) ∧ w' = w := by
  go_enter Tryz.func101, Tryz.ntmps101
  go_wp2_with fail
  go_ret
  exact ⟨rfl, rfl⟩
set_option maxRecDepth 100000 in
set_option maxHeartbeats 4000000 in
theorem first_some (b off n c : Nat) (v : Int) (w : World) (h : w.cell? ⟨b, off, none⟩ = some (.int .u64 v)) (hn : n ≤ 1000) : Calls Tryz.prog 101 #[.slice (some ⟨b, off, none⟩) (n + 1) c] w fun x w' => x = .returned (.int .u64 v) ∧ w' = w := by
  have h0 : ((n : Int) + 1 == 0) = false := by simpa using (by omega : ¬ (n : Int) + 1 = 0)
  go_enter Tryz.func101, Tryz.ntmps101
  go_wp2_with fail
  go_ret
  exact ⟨rfl, rfl⟩
end Z
end Go.Proofs.YtbichnngepjpnaaGreat
