import Derived.Test.YtbichnngepjpnaaGreatZIn
import Derived.Test.YtbichnngepjpnaaGreatZReady
/-
  Stage 13, fastvm: lists that grow.
-/
namespace Go.Proofs.YtbichnngepjpnaaGreat
namespace Z
open Go.RowKit
open T (Sep Ob Kp Mf FlIn)

theorem addr_addZ (b off j : Nat) : (⟨b, off, none⟩ : Addr).add j = ⟨b, off + j, none⟩ := by by_cases h0 : j = 0 <;> simp [Addr.add, h0]
/-- One element appended to a list that is owned. -/
theorem wp_append_z {o : Oper} {a : Act} {K : Act → World → Prop} {Q : Exit → Act → World → Prop} {w : World} (s x : Operand) (t e : TypeId) (z : Value) (size bytes : Nat)
    (ho : o.op = .call { callee := .builtin .append, args := #[s, x], argTypes := #[t, t] }) (ht : Tryz.prog.underlying t = some (.slice e))
    (hi : (Tryz.prog.info? e).map (fun i => (i.zero, i.size, i.bytes)) = some (some z, size, bytes)) (hz : z.cells.size = size) (hsz : 0 < size) (hby : bytes ≤ 2048)
    (base : Nat) (v : Value) (n : Nat) (xs cs : List Value) (hs : a.eval s = v) (hown : w.ownsRow base e size v n xs) (X : Nat) (hx : a.eval x = .slice (some ⟨X, 0, none⟩) 1 1) (hX : At w X cs.toArray) (hc : cs.length = size) (h1 : ∀ u ∈ cs, u.oneCell' = true)
    (hlen : n ≤ 1000000) (hbase : base ≤ w.heap.size)
    (h : ∀ g cap w', w'.ownsRow base e size (.slice (some ⟨g, 0, none⟩) (n + 1) cap) (n + 1) (xs ++ cs) → w.grownBy w' v.ownBlock → (v.ownBlock = some g ∨ g = w.heap.size) → K (a.put o.dst (.slice (some ⟨g, 0, none⟩) (n + 1) cap)) w') : o.wp Tryz.prog a w K Q := by
  obtain ⟨i0, hi0, hz0, hz1, hz2⟩ := T.info_parts' hi
  have hb : (n + 1) * bytes ≤ 140737488355328 := Nat.le_trans (Nat.mul_le_mul_left _ hby) (by omega)
  have hn : ∀ j u, cs[j]? = some u → w.cell? ((⟨X, 0, none⟩ : Addr).add j) = some u := by
    intro j u hj
    rw [addr_addZ, Nat.zero_add, hX.2.1]
    simpa using hj
  refine wp_append_lies _ s x t ho base e i0 z size bytes ht hi0 hz0 hz1 hz2 hz hsz v n xs hs hown ⟨X, 0, none⟩ 1 1 cs hx (by omega) hn h1 (by decide) (by unfold maxLen; omega) hb hbase _ rfl ?_
  intro g cap w' k1 k2 k3 _
  exact h g cap w' k1 k2 k3
theorem kp_grown {w w1 : World} {row : Option Nat} (h : w.grownBy w1 row) : Kp (fun k => row = some k) w w1 := ⟨h.os, h.tape, h.output, h.size, fun k hk hn => h.block k hk (fun e => hn e.symm)⟩
theorem own_slZ {w : World} {lo e s n : Nat} {v : Value} {xs : List Value} (h : w.ownsRow lo e s v n xs) : ∃ a c, v = .slice a n c := by
  rcases h.2 with ⟨rfl, rfl⟩ | ⟨g, cap, cur, rfl, _⟩
  · exact ⟨none, 0, rfl⟩
  · exact ⟨_, _, rfl⟩
section
variable {B : Nat} {W W2 : World} {a : Nat} {P : Pr} {s : Fm} {l : List Ob} {q : Pt}
theorem sep_box (x x' : Fx) {l2 : List Ob} (h : Sep B W (bxOb a x :: l2)) (v : Value) (j : Nat) (hb : Bx W a x → Bx (W.setCell ⟨a, j, none⟩ v) a x') (hB : B ≤ W.heap.size) : Sep B (W.setCell ⟨a, j, none⟩ v) (bxOb a x' :: l2) ∧ Below B W (W.setCell ⟨a, j, none⟩ v) := by
  have hk : Kp (fun k => k = a) W (W.setCell ⟨a, j, none⟩ v) := Kp.set (S := fun k => k = a) W ⟨a, j, none⟩ v rfl
  exact ⟨sep_change (l1 := []) (o := bxOb a x) (o' := bxOb a x') h (hb (h.ins (bxOb a x) (by simp))) hk (fun _ r => .inl r) hB, sep_below (l1 := []) (o := bxOb a x) h hk hB⟩
theorem MIn.app_tc (t : Tc) (h : Sep B W (obs B a P s q ++ l)) (le : B ≤ W.heap.size) {g cap : Nat} (hown : W2.ownsRow B 60 3 (.slice (some ⟨g, 0, none⟩) (s.tc.length + 1) cap) (s.tc.length + 1) (s.tc.flatMap Tc.vals ++ t.vals)) (gr : W.grownBy W2 q.tv.ownBlock) (hg : q.tv.ownBlock = some g ∨ g = W.heap.size) :
    MIn B (W2.setCell ⟨a, 25, none⟩ (.slice (some ⟨g, 0, none⟩) (s.tc.length + 1) cap)) a P { s with tc := s.tc ++ [t] } l ∧ Below B W (W2.setCell ⟨a, 25, none⟩ (.slice (some ⟨g, 0, none⟩) (s.tc.length + 1) cap)) := by
  have hk := kp_grown gr
  have h1 := sep_change (l1 := [bxOb a (bxOf P s q), flOb q.F q.mp s.m, stOb B q.sv s.st, inOb q.iv s.inp, ouOb B q.ov_ s.out]) (o := tcOb B q.tv s.tc) (o' := tcOb B (.slice (some ⟨g, 0, none⟩) (s.tc.length + 1) cap) (s.tc ++ [t])) (l2 := pgOb q.SP q.cv q.gv P :: l) h (by
    show W2.ownsRow B _ 3 _ (s.tc ++ [t]).length ((s.tc ++ [t]).flatMap Tc.vals)
    rw [List.length_append, List.flatMap_append]
    simpa using hown) hk (fun k r => by
    have e : g = k := by simpa [tcOb, rowOb, Value.ownBlock] using r
    rcases hg with u | u
    · exact .inl (e ▸ u)
    · exact .inr (by omega)) le
  have b1 := sep_below (l1 := [bxOb a (bxOf P s q), flOb q.F q.mp s.m, stOb B q.sv s.st, inOb q.iv s.inp, ouOb B q.ov_ s.out]) (o := tcOb B q.tv s.tc) (l2 := pgOb q.SP q.cv q.gv P :: l) h hk le
  obtain ⟨h2, b2⟩ := sep_box (bxOf P s q) (bxOf P { s with tc := s.tc ++ [t] } { q with tv := .slice (some ⟨g, 0, none⟩) (s.tc.length + 1) cap }) h1 (.slice (some ⟨g, 0, none⟩) (s.tc.length + 1) cap) 25 (fun hb => hb.tv _) (Nat.le_trans le b1.size)
  exact ⟨⟨⟨{ q with tv := .slice (some ⟨g, 0, none⟩) (s.tc.length + 1) cap }, h2⟩, Nat.le_trans le (b1.trans b2).size⟩, b1.trans b2⟩
theorem MIn.app_out (t : Int) (h : Sep B W (obs B a P s q ++ l)) (le : B ≤ W.heap.size) {g cap : Nat} (hown : W2.ownsRow B 31 1 (.slice (some ⟨g, 0, none⟩) (s.out.length + 1) cap) (s.out.length + 1) (s.out.map u64I ++ [u64I t])) (gr : W.grownBy W2 q.ov_.ownBlock) (hg : q.ov_.ownBlock = some g ∨ g = W.heap.size) :
    Bx W2 a (bxOf P s q) ∧ (∀ o ∈ l, o.In W2) ∧ MIn B (W2.setCell ⟨a, 24, none⟩ (.slice (some ⟨g, 0, none⟩) (s.out.length + 1) cap)) a P { s with out := s.out ++ [t] } l ∧ Below B W (W2.setCell ⟨a, 24, none⟩ (.slice (some ⟨g, 0, none⟩) (s.out.length + 1) cap)) := by
  have hk := kp_grown gr
  have h1 := sep_change (l1 := [bxOb a (bxOf P s q), flOb q.F q.mp s.m, stOb B q.sv s.st, inOb q.iv s.inp]) (o := ouOb B q.ov_ s.out) (o' := ouOb B (.slice (some ⟨g, 0, none⟩) (s.out.length + 1) cap) (s.out ++ [t])) (l2 := tcOb B q.tv s.tc :: pgOb q.SP q.cv q.gv P :: l) h (by
    show W2.ownsRow B _ 1 _ (s.out ++ [t]).length ((s.out ++ [t]).map u64I)
    rw [List.length_append, List.map_append]
    simpa using hown) hk (fun k r => by
    have e : g = k := by simpa [ouOb, rowOb, Value.ownBlock] using r
    rcases hg with u | u
    · exact .inl (e ▸ u)
    · exact .inr (by omega)) le
  have b1 := sep_below (l1 := [bxOb a (bxOf P s q), flOb q.F q.mp s.m, stOb B q.sv s.st, inOb q.iv s.inp]) (o := ouOb B q.ov_ s.out) (l2 := tcOb B q.tv s.tc :: pgOb q.SP q.cv q.gv P :: l) h hk le
  obtain ⟨h2, b2⟩ := sep_box (bxOf P s q) (bxOf P { s with out := s.out ++ [t] } { q with ov_ := .slice (some ⟨g, 0, none⟩) (s.out.length + 1) cap }) h1 (.slice (some ⟨g, 0, none⟩) (s.out.length + 1) cap) 24 (fun hb => hb.ov _) (Nat.le_trans le b1.size)
  refine ⟨h1.ins (bxOb a (bxOf P s q)) (by simp), fun o ho => h1.ins o (by simp [ho]), ?_⟩
  exact ⟨⟨⟨{ q with ov_ := .slice (some ⟨g, 0, none⟩) (s.out.length + 1) cap }, h2⟩, Nat.le_trans le (b1.trans b2).size⟩, b1.trans b2⟩
theorem MIn.app_st (t : Fr) (h : Sep B W (obs B a P s q ++ l)) (le : B ≤ W.heap.size) {g cap : Nat} (hown : W2.ownsRow B 69 18 (.slice (some ⟨g, 0, none⟩) (s.st.length + 1) cap) (s.st.length + 1) (s.st.flatMap Fr.vals ++ t.vals)) (gr : W.grownBy W2 q.sv.ownBlock) (hg : q.sv.ownBlock = some g ∨ g = W.heap.size) :
    Bx W2 a (bxOf P s q) ∧ (∀ o ∈ l, o.In W2) ∧ MIn B (W2.setCell ⟨a, 22, none⟩ (.slice (some ⟨g, 0, none⟩) (s.st.length + 1) cap)) a P { s with st := s.st ++ [t] } l ∧ Below B W (W2.setCell ⟨a, 22, none⟩ (.slice (some ⟨g, 0, none⟩) (s.st.length + 1) cap)) := by
  have hk := kp_grown gr
  have h1 := sep_change (l1 := [bxOb a (bxOf P s q), flOb q.F q.mp s.m]) (o := stOb B q.sv s.st) (o' := stOb B (.slice (some ⟨g, 0, none⟩) (s.st.length + 1) cap) (s.st ++ [t])) (l2 := inOb q.iv s.inp :: ouOb B q.ov_ s.out :: tcOb B q.tv s.tc :: pgOb q.SP q.cv q.gv P :: l) h (by
    show W2.ownsRow B _ 18 _ (s.st ++ [t]).length ((s.st ++ [t]).flatMap Fr.vals)
    rw [List.length_append, List.flatMap_append]
    simpa using hown) hk (fun k r => by
    have e : g = k := by simpa [stOb, rowOb, Value.ownBlock] using r
    rcases hg with u | u
    · exact .inl (e ▸ u)
    · exact .inr (by omega)) le
  have b1 := sep_below (l1 := [bxOb a (bxOf P s q), flOb q.F q.mp s.m]) (o := stOb B q.sv s.st) (l2 := inOb q.iv s.inp :: ouOb B q.ov_ s.out :: tcOb B q.tv s.tc :: pgOb q.SP q.cv q.gv P :: l) h hk le
  obtain ⟨h2, b2⟩ := sep_box (bxOf P s q) (bxOf P { s with st := s.st ++ [t] } { q with sv := .slice (some ⟨g, 0, none⟩) (s.st.length + 1) cap }) h1 (.slice (some ⟨g, 0, none⟩) (s.st.length + 1) cap) 22 (fun hb => hb.sv _) (Nat.le_trans le b1.size)
  refine ⟨h1.ins (bxOb a (bxOf P s q)) (by simp), fun o ho => h1.ins o (by simp [ho]), ?_⟩
  exact ⟨⟨⟨{ q with sv := .slice (some ⟨g, 0, none⟩) (s.st.length + 1) cap }, h2⟩, Nat.le_trans le (b1.trans b2).size⟩, b1.trans b2⟩
/-- An input is taken. -/
theorem MIn.take (L : List Int) (v : Value) (h : Sep B W (obs B a P s q ++ l)) (le : B ≤ W.heap.size) (hv : IvIn W v L) (hb : v.ownBlock = q.iv.ownBlock) :
    MIn B (W.setCell ⟨a, 23, none⟩ v) a P { s with inp := L } l ∧ Below B W (W.setCell ⟨a, 23, none⟩ v) := by
  have h1 := sep_change (W' := W) (l1 := [bxOb a (bxOf P s q), flOb q.F q.mp s.m, stOb B q.sv s.st]) (o := inOb q.iv s.inp) (o' := inOb v L) (l2 := ouOb B q.ov_ s.out :: tcOb B q.tv s.tc :: pgOb q.SP q.cv q.gv P :: l) h hv (Kp.refl _ W) (fun k r => .inl (by
    show q.iv.ownBlock = some k
    rw [← hb]
    exact r)) le
  obtain ⟨h2, b2⟩ := sep_box (bxOf P s q) (bxOf P { s with inp := L } { q with iv := v }) h1 v 23 (fun hb => hb.iv _) le
  exact ⟨⟨⟨{ q with iv := v }, h2⟩, Nat.le_trans le b2.size⟩, b2⟩
/-- A call on a machine's memory. -/
theorem MIn.onMem (h : MIn B W a P s l) : ∃ km, W.cell? ⟨a, 3, none⟩ = some (.pointer (some ⟨km, 0, none⟩)) ∧ ∃ F, FlIn F W km s.m ∧ ∀ W' F' m', FlIn F' W' km m' → Mf F F' W W' → MIn B W' a P { s with m := m' } l ∧ Below B W W' ∧ W'.cell? ⟨a, 3, none⟩ = some (.pointer (some ⟨km, 0, none⟩)) := by
  obtain ⟨⟨q, h1⟩, le⟩ := h
  have hB := h1.ins (bxOb a (bxOf P s q)) (by simp [obs])
  refine ⟨q.mp, hB.at_ 3 (by omega), q.F, h1.ins (flOb q.F q.mp s.m) (by simp [obs]), fun W' F' m' e1 e2 => ?_⟩
  have h2 := sep_change (l1 := [bxOb a (bxOf P s q)]) (o := flOb q.F q.mp s.m) (o' := flOb F' q.mp m') h1 e1 e2.kp e2.new le
  have hB2 : Bx W' a (bxOf P s q) := h2.ins (bxOb a (bxOf P s q)) (by simp)
  exact ⟨⟨⟨{ q with F := F' }, h2⟩, Nat.le_trans le e2.kp.size⟩, sep_below (l1 := [bxOb a (bxOf P s q)]) (o := flOb q.F q.mp s.m) h1 e2.kp le, hB2.at_ 3 (by omega)⟩
/-- A store into a machine's memory. -/
theorem MIn.store (h : MIn B W a P s l) (km : Nat) (c3 : W.cell? ⟨a, 3, none⟩ = some (.pointer (some ⟨km, 0, none⟩))) (N m R : Nat) (hN : N < 18446744073709551616) (hm : m < 18446744073709551616) :
    Calls Tryz.prog 107 #[.pointer (some ⟨km, 0, none⟩), .int .u64 N, .int .u64 m, .int .u64 R] W fun x w' => x = .returned (.int .i64 (T.ldE N m)) ∧ MIn B w' a P { s with m := T.stB s.m N m R } l ∧ Below B W w' ∧ w'.cell? ⟨a, 3, none⟩ = some (.pointer (some ⟨km, 0, none⟩)) := by
  obtain ⟨km', c3', F, hF, hk⟩ := h.onMem
  obtain rfl : km = km' := by
    rw [c3] at c3'
    simpa using c3'
  refine (T.flStore_any F km N m R s.m W hF hN hm).mono ?_
  rintro x w' ⟨rfl, F', h1, h2⟩
  exact ⟨rfl, hk _ _ _ h1 h2⟩
theorem MIn.store0 (h : MIn B W a P s l) (km : Nat) (c3 : W.cell? ⟨a, 3, none⟩ = some (.pointer (some ⟨km, 0, none⟩))) (N : Nat) (hN : N + 8 < 18446744073709551616) :
    Calls Tryz.prog 107 #[.pointer (some ⟨km, 0, none⟩), .int .u64 ((N : Int) + 8), .int .u64 8, .int .u64 0] W fun x w' => x = .returned (.int .i64 (T.ldE (N + 8) 8)) ∧ MIn B w' a P { s with m := T.stB s.m (N + 8) 8 0 } l ∧ Below B W w' ∧ w'.cell? ⟨a, 3, none⟩ = some (.pointer (some ⟨km, 0, none⟩)) :=
  h.store km c3 (N + 8) 8 0 hN (by decide)
theorem Gr.cellA (h : MIn B W a P s l) {V : World} (g : Gr W V) {j : Nat} {v : Value} (c : W.cell? ⟨a, j, none⟩ = some v) : V.cell? ⟨a, j, none⟩ = some v := by
  obtain ⟨q, hb⟩ := h.bx
  exact (T.cell_of_block (g.below.block a hb.lt) j).trans c
end
end Z
end Go.Proofs.YtbichnngepjpnaaGreat


/-
  Stage 13, fastvm: how a gate's code begins.
-/
namespace Go.Proofs.YtbichnngepjpnaaGreat
namespace Z
open Go.RowKit
open T (Sep Ob Kp Mf FlIn boxOb)

theorem wp_copy_z {o : Oper} {a : Act} {K : Act → World → Prop} {Q : Exit → Act → World → Prop} {w : World} (d s : Operand) (ho : o.op = .call { callee := .builtin .copy, args := #[d, s], argTypes := #[26, 26] })
    (b off dl dc : Nat) (hd : a.eval d = .slice (some ⟨b, off, none⟩) dl dc) (sa : Option Addr) (n c : Nat) (hs : a.eval s = .slice sa n c) (hn : n ≤ dl) (A : Nat → Int)
    (hsrc : n = 0 ∨ ∃ sb so, sa = some ⟨sb, so, none⟩ ∧ ∀ j, j < n → w.cell? ⟨sb, so + j, none⟩ = some (.int .u64 (A j))) (hth : w.there b off n)
    (h : K (a.put o.dst (goInt n)) (w.setCells b off ((List.range n).map fun j => Value.int .u64 (A j)))) : o.wp Tryz.prog a w K Q := by
  have hl : ((List.range n).map fun j => Value.int .u64 (A j)).length = n := by simp
  have hr : (Builtin.copy_ #[26, 26] o.type #[.slice (some ⟨b, off, none⟩) dl dc, .slice sa n c]).run Tryz.prog w = .ok (goInt n) (w.setCells b off ((List.range n).map fun j => Value.int .u64 (A j))) := by
    rcases hsrc with h0 | ⟨sb, so, rfl, hc⟩
    · subst h0
      have := run_copy_none (P := Tryz.prog) w 26 26 o.type 31 (some ⟨b, off, none⟩) sa dl dc 0 c Tryz.underlying26 (by kernel_rfl) (by simp)
      rw [show ((List.range 0).map fun j => Value.int .u64 (A j)) = [] from rfl]
      exact this
    · have := run_copy_cells (P := Tryz.prog) w 26 26 o.type 31 b off dl dc ⟨sb, so, none⟩ n c ((List.range n).map fun j => Value.int .u64 (A j)) Tryz.underlying26 (by kernel_rfl) (by rw [hl]; exact (Nat.min_eq_left hn).symm) (fun j v q => ?_) (fun j hj => (hth j (by rwa [hl] at hj)).1) (fun j hj => (hth j (by rwa [hl] at hj)).2) (fun v hv => by obtain ⟨j, _, rfl⟩ := List.mem_map.1 hv; rfl)
      · rw [hl] at this
        exact this
      · have hj : j < n := by have := (List.getElem?_eq_some_iff.1 q).1; rwa [hl] at this
        rw [addr_addZ, hc j hj, ← q]
        simp [hj]
  unfold Oper.wp execOp
  simp only [ho, resolve, invoke, builtin, Sem.run_bind, Sem.run_pure, Result.andThen_ok, List.map_toArray, List.map_cons, List.map_nil, hd, hs, hr]
  exact h
/-- Registers behind a gate's entry. -/
def entR (g : Fg) (n : Nat) (A : Nat → Int) : Nat → Int := fun k => if 1 ≤ k ∧ k ≤ n then A (k - 1) else g.r k
theorem Fr.len (f : Fr) : f.vals.length = 18 := by simp [Fr.vals, regs_len]
theorem Fr.reg (f : Fr) (k : Nat) (h : k < 16) : f.vals[2 + k]? = some (.int .u64 (f.r k)) := by
  rw [show 2 + k = k + 1 + 1 by omega]
  exact regs_at f.r k h
theorem at_ent {w : World} {b gate n : Nat} {g : Fg} (A : Nat → Int) (h : At w b (Fr.vals ⟨gate, g.e, g.r⟩).toArray) (hn : n ≤ 15) : At (w.setCells b 3 ((List.range n).map fun j => Value.int .u64 (A j))) b (Fr.vals ⟨gate, g.e, entR g n A⟩).toArray := by
  have hl : ((List.range n).map fun j => Value.int .u64 (A j)).length = n := by simp
  refine At.setRange h 3 _ (by rw [Fr.len, Fr.len]) (by rw [hl, Fr.len]; omega) (fun j hj => ?_) (fun i hi => ?_)
  · rw [hl] at hj
    rw [show 3 + j = 2 + (j + 1) by omega, Fr.reg _ (j + 1) (by omega)]
    show some (Value.int .u64 (entR g n A (j + 1))) = _
    unfold entR
    rw [if_pos ⟨by omega, by omega⟩]
    simp [hj]
  · rw [hl] at hi
    by_cases h18 : i < 18
    · by_cases h2 : i < 2
      · match i, h2 with
        | 0, _ => rfl
        | 1, _ => rfl
      · rw [show i = 2 + (i - 2) by omega, Fr.reg _ (i - 2) (by omega), Fr.reg _ (i - 2) (by omega)]
        show some (Value.int .u64 (entR g n A (i - 2))) = some (.int .u64 (g.r (i - 2)))
        unfold entR
        rw [if_neg (by omega)]
    · rw [List.getElem?_eq_none (by rw [Fr.len]; omega), List.getElem?_eq_none (by rw [Fr.len]; omega)]
theorem Fr.one (f : Fr) : f.vals.toArray.all (fun x => x.oneCell') = true := by
  rw [Array.all_eq_true_iff_forall_mem]
  intro u hu
  simp only [List.mem_toArray, Fr.vals, List.mem_cons] at hu
  rcases hu with rfl | rfl | hu
  · rfl
  · rfl
  · exact regs_one f.r u hu
theorem results_rowY {fn : Func} {p : Tmp} {ty : TypeId} {v : Value} {a : Addr} (h : fn.results = #[.cell p ty]) (tmps : Array Value) (w : World) (ht : tmps.getD p undef = .pointer (some a)) (hl : (loadVar ty a).run Tryz.prog w = .ok v w) :
    (results fn tmps).run Tryz.prog w = .ok v w := by
  have ht' : tmps[p]?.getD undef = .pointer (some a) := by simpa using ht
  simp [results, h, ht', asAddr, hl]
theorem build_fr (x y : Int) (r : Nat → Int) (W : World) : (Instr.build 69 #[(0, .int .i64 x), (1, .int .i64 y), (2, .agg (regs r).toArray)]).run Tryz.prog W = .ok (.agg (Value.int .i64 x :: .int .i64 y :: regs r).toArray) W := by kernel_rfl
theorem wp_build_fr {o : Oper} {a : Act} {K : Act → World → Prop} {Q : Exit → Act → World → Prop} {w : World} (i j k : Operand) (ho : o.op = .build 69 #[(0, i), (1, j), (2, k)]) (x y : Int) (r : Nat → Int) (hi : a.eval i = .int .i64 x) (hj : a.eval j = .int .i64 y) (hk : a.eval k = .agg (regs r).toArray)
    (h : K (a.put o.dst (.agg (Value.int .i64 x :: .int .i64 y :: regs r).toArray)) w) : o.wp Tryz.prog a w K Q := by
  unfold Oper.wp execOp
  simp only [ho, List.map_toArray, List.map_cons, List.map_nil, hi, hj, hk, build_fr, Sem.run_bind, Sem.run_pure, Result.andThen_ok]
  exact h
set_option maxRecDepth 100000 in
set_option maxHeartbeats 4000000 in
theorem entered_any (g : Fg) (gb goff gn gc gate : Nat) (sa : Option Addr) (n c : Nat) (A : Nat → Int) (w : World) (hlt : gate < gn) (hgb : gb < w.heap.size) (hgr : w.rangeAt gb (goff + gate * 19) g.vals) (hn : n ≤ 15) (hsrc : n = 0 ∨ ∃ sb so, sa = some ⟨sb, so, none⟩ ∧ sb < w.heap.size ∧ ∀ j, j < n → w.cell? ⟨sb, so + j, none⟩ = some (.int .u64 (A j))) :
    Calls Tryz.prog 33 #[.slice (some ⟨gb, goff, none⟩) gn gc, .int .i64 gate, .slice sa n c] w fun x w' => x = .returned (.agg (Fr.vals ⟨gate, g.e, entR g n A⟩).toArray) ∧ Gr w w' := by
  have hi : (gate : Int) < (gn : Int) := Int.ofNat_lt.2 hlt
  have hsr2 : Hz (∀ X, Gr w X → n = 0 ∨ ∃ sb so, sa = some ⟨sb, so, none⟩ ∧ ∀ j, j < n → X.cell? ⟨sb, so + j, none⟩ = some (.int .u64 (A j))) := Hz.mk (fun X q => by
    rcases hsrc with h0 | ⟨sb, so, e1, e2, e3⟩
    · exact .inl h0
    · exact .inr ⟨sb, so, e1, fun j hj => (T.cell_of_block (q.below.block sb e2) _).trans (e3 j hj)⟩)
  clear hsrc
  go_enter Tryz.func33, Tryz.ntmps33
  go_upto_region 1 with fail
  refine wp_world (fun X => At X w.heap.size (List.toArray [Value.int .i64 0, .int .i64 0, .int .u64 0, .int .u64 0, .int .u64 0, .int .u64 0, .int .u64 0, .int .u64 0, .int .u64 0, .int .u64 0, .int .u64 0, .int .u64 0, .int .u64 0, .int .u64 0, .int .u64 0, .int .u64 0, .int .u64 0, .int .u64 0]) ∧ Gr w X) ⟨At.new w _ _, (Gr.refl _).alloc _⟩ ?_
  rintro W0 ⟨hAr, G⟩
  have hgr1 : Hz (W0.rangeAt gb (goff + gate * 19) g.vals) := Hz.mk (fun j v q => (T.cell_of_block (G.below.block gb hgb) _).trans (hgr j v q))
  have hnr : w.heap.size ≤ w.heap.size := Nat.le_refl _
  generalize hkr : w.heap.size = kr at hAr hnr ⊢
  replace hAr := Hz.mk hAr
  replace hgr := Hz.mk hgr
  refine wp_region_lit ?_
  refine wpList_plain rfl (fun K hK => ?_)
  go_simp
  with_reducible refine hK _ _ ?_
  clear hK K
  try simp only [Act.put, List.setIfInBounds_toArray, List.set_cons_zero, List.set_cons_succ]
  refine wpList_plain rfl (fun K hK => ?_)
  go_simp
  with_reducible refine hK _ _ ?_
  clear hK K
  try simp only [Act.put, List.setIfInBounds_toArray, List.set_cons_zero, List.set_cons_succ]
  refine wpList_plain rfl (fun K hK => ?_)
  go_simp
  with_reducible refine hK _ _ ?_
  clear hK K
  try simp only [Act.put, List.setIfInBounds_toArray, List.set_cons_zero, List.set_cons_succ]
  refine wpList_plain rfl (fun K hK => ?_)
  refine wp_load_mid _ _ rfl _ (goff + gate * 19) rfl g.vals _ hgr1.out Tryz.underlying78 rfl (by rw [Fg.len]; kernel_rfl) (hK _ _ ?_)
  clear hK K
  try simp only [Act.put, List.setIfInBounds_toArray, List.set_cons_zero, List.set_cons_succ]
  refine wpList_plain rfl (fun K hK => ?_)
  go_simp
  with_reducible refine hK _ _ ?_
  clear hK K
  try simp only [Act.put, List.setIfInBounds_toArray, List.set_cons_zero, List.set_cons_succ]
  have hA7 : At (W0.alloc (.cells (List.toArray [Value.int .i64 0, .int .i64 0, .int .i64 0, .int .u64 0, .int .u64 0, .int .u64 0, .int .u64 0, .int .u64 0, .int .u64 0, .int .u64 0, .int .u64 0, .int .u64 0, .int .u64 0, .int .u64 0, .int .u64 0, .int .u64 0, .int .u64 0, .int .u64 0, .int .u64 0]) 78)) W0.heap.size (List.toArray [Value.int .i64 0, .int .i64 0, .int .i64 0, .int .u64 0, .int .u64 0, .int .u64 0, .int .u64 0, .int .u64 0, .int .u64 0, .int .u64 0, .int .u64 0, .int .u64 0, .int .u64 0, .int .u64 0, .int .u64 0, .int .u64 0, .int .u64 0, .int .u64 0, .int .u64 0]) := At.new W0 _ _
  have hth := Hz.mk (At.there hA7 0 19 (by decide))
  have hA8 := Hz.mk (At.setAll hA7 g.vals (by rw [Fg.len]; rfl))
  have g8 := Hz.mk (Gr.setCells ((Gr.refl W0).alloc (.cells (List.toArray [Value.int .i64 0, .int .i64 0, .int .i64 0, .int .u64 0, .int .u64 0, .int .u64 0, .int .u64 0, .int .u64 0, .int .u64 0, .int .u64 0, .int .u64 0, .int .u64 0, .int .u64 0, .int .u64 0, .int .u64 0, .int .u64 0, .int .u64 0, .int .u64 0, .int .u64 0]) 78)) W0.heap.size (Nat.le_refl _) g.vals 0)
  clear hA7
  refine wpList_plain rfl (fun K hK => ?_)
  refine wp_store_mid _ _ _ rfl _ _ (List.toArray g.vals) rfl rfl (show World.there _ _ _ _ by simpa [Fg.len] using hth.out) (by rw [List.size_toArray, Fg.len]; kernel_rfl) (Fg.one _) (hK _ _ ?_)
  clear hK K
  try simp only [Act.put]
  generalize World.setCells _ _ _ _ = W1 at *
  clear hth
  have hs8 : W0.heap.size < W1.heap.size := hA8.out.1
  generalize hk9 : W0.heap.size = kg at *
  have hAg := hA8
  replace hAr := Hz.mk (hAr.out.gr g8.out)
  replace G := G.trans g8.out
  clear hA8 g8 hgr1 hs8 hk9
  have hkr1 : kr < W1.heap.size := hAr.out.1
  have c0 : W1.cell? ⟨kg, 0, none⟩ = some (.int .i64 g.e) := hAg.out.2.1 0
  have hrg : Hz (W1.rangeAt kg 3 (regs g.r)) := Hz.mk (fun j v q => by
    have := hAg.out.range (3 + j) v (by rw [show 3 + j = j + 1 + 1 + 1 by omega]; exact q)
    rwa [Nat.zero_add] at this)
  go_upto_region 2 with fail
  refine wp_region_lit ?_
  refine wpList_plain rfl (fun K hK => ?_)
  go_simp
  with_reducible refine hK _ _ ?_
  clear hK K
  try simp only [Act.put, List.setIfInBounds_toArray, List.set_cons_zero, List.set_cons_succ]
  refine wpList_plain rfl (fun K hK => ?_)
  go_simp
  with_reducible refine hK _ _ ?_
  clear hK K
  try simp only [Act.put, List.setIfInBounds_toArray, List.set_cons_zero, List.set_cons_succ]
  refine wpList_plain rfl (fun K hK => ?_)
  go_simp
  with_reducible refine hK _ _ ?_
  clear hK K
  try simp only [Act.put, List.setIfInBounds_toArray, List.set_cons_zero, List.set_cons_succ]
  refine wpList_plain rfl (fun K hK => ?_)
  go_simp
  with_reducible refine hK _ _ ?_
  clear hK K
  try simp only [Act.put, List.setIfInBounds_toArray, List.set_cons_zero, List.set_cons_succ]
  refine wpList_plain rfl (fun K hK => ?_)
  refine wp_load_mid _ _ rfl _ 3 rfl (regs g.r) _ hrg.out Tryz.underlying37 rfl (by rw [regs_len]; kernel_rfl) (hK _ _ ?_)
  clear hK K
  try simp only [Act.put, List.setIfInBounds_toArray, List.set_cons_zero, List.set_cons_succ]
  refine wpList_plain rfl (fun K hK => ?_)
  refine wp_build_fr _ _ _ rfl gate g.e g.r (by rfl) (by rfl) (by rfl) ?_
  with_reducible refine hK _ _ ?_
  clear hK K
  try simp only [Act.put, List.setIfInBounds_toArray, List.set_cons_zero, List.set_cons_succ]
  refine wpList_plain rfl (fun K hK => ?_)
  go_simp
  with_reducible refine hK _ _ ?_
  clear hK K
  try simp only [Act.put, List.setIfInBounds_toArray, List.set_cons_zero, List.set_cons_succ]
  have hA7 : At (W1.alloc (.cells (List.toArray [Value.int .i64 0, .int .i64 0, .int .u64 0, .int .u64 0, .int .u64 0, .int .u64 0, .int .u64 0, .int .u64 0, .int .u64 0, .int .u64 0, .int .u64 0, .int .u64 0, .int .u64 0, .int .u64 0, .int .u64 0, .int .u64 0, .int .u64 0, .int .u64 0]) 69)) W1.heap.size (List.toArray [Value.int .i64 0, .int .i64 0, .int .u64 0, .int .u64 0, .int .u64 0, .int .u64 0, .int .u64 0, .int .u64 0, .int .u64 0, .int .u64 0, .int .u64 0, .int .u64 0, .int .u64 0, .int .u64 0, .int .u64 0, .int .u64 0, .int .u64 0, .int .u64 0]) := At.new W1 _ _
  have hth := Hz.mk (At.there hA7 0 18 (by decide))
  have hA8 := Hz.mk (At.setAll hA7 (Fr.vals ⟨gate, g.e, g.r⟩) (by rw [Fr.len]; rfl))
  have g8 := Hz.mk (Gr.setCells ((Gr.refl W1).alloc (.cells (List.toArray [Value.int .i64 0, .int .i64 0, .int .u64 0, .int .u64 0, .int .u64 0, .int .u64 0, .int .u64 0, .int .u64 0, .int .u64 0, .int .u64 0, .int .u64 0, .int .u64 0, .int .u64 0, .int .u64 0, .int .u64 0, .int .u64 0, .int .u64 0, .int .u64 0]) 69)) W1.heap.size (Nat.le_refl _) (Fr.vals ⟨gate, g.e, g.r⟩) 0)
  clear hA7
  refine wpList_plain rfl (fun K hK => ?_)
  refine wp_store_mid _ _ _ rfl _ _ (List.toArray (Fr.vals ⟨gate, g.e, g.r⟩)) rfl rfl (show World.there _ _ _ _ by simpa [Fr.len] using hth.out) (by rw [List.size_toArray, Fr.len]; kernel_rfl) (Fr.one _) (hK _ _ ?_)
  clear hK K
  try simp only [Act.put]
  generalize World.setCells _ _ _ _ = W2 at *
  clear hth
  have hs8 : W1.heap.size < W2.heap.size := hA8.out.1
  generalize hk9 : W1.heap.size = kf at *
  have hAf := hA8
  replace hAr := Hz.mk (hAr.out.gr g8.out)
  have G1 := G
  replace G := G.trans g8.out
  have hsr3 := Hz.mk (hsr2.out W2 G)
  have hthf := Hz.mk (At.there hAf.out 3 n (by rw [Fr.len]; omega))
  have hA9 := Hz.mk (at_ent A hAf.out hn)
  have hkf : w.heap.size ≤ kf := by rw [← hk9]; exact G1.below.size
  have hkfr : kr ≠ kf := by omega
  have G3 := Hz.mk (Gr.setCells G kf hkf ((List.range n).map fun j => Value.int .u64 (A j)) 3)
  have hAr3 := Hz.mk (At.other hAr.out hkfr 3 ((List.range n).map fun j => Value.int .u64 (A j)))
  clear hA8 g8 hrg c0 hAg hk9 G1
  go_upto_region 3 with fail
  refine wp_region_lit ?_
  refine wpList_plain rfl (fun K hK => ?_)
  go_simp
  with_reducible refine hK _ _ ?_
  clear hK K
  try simp only [Act.put, List.setIfInBounds_toArray, List.set_cons_zero, List.set_cons_succ]
  refine wpList_plain rfl (fun K hK => ?_)
  go_simp
  with_reducible refine hK _ _ ?_
  clear hK K
  try simp only [Act.put, List.setIfInBounds_toArray, List.set_cons_zero, List.set_cons_succ]
  refine wpList_plain rfl (fun K hK => ?_)
  go_simp
  with_reducible refine hK _ _ ?_
  clear hK K
  try simp only [Act.put, List.setIfInBounds_toArray, List.set_cons_zero, List.set_cons_succ]
  refine wpList_plain rfl (fun K hK => ?_)
  refine wp_copy_z _ _ rfl kf 3 15 15 (by rfl) sa n c (by rfl) hn A hsr3.out hthf.out ?_
  with_reducible refine hK _ _ ?_
  clear hK K
  try simp only [Act.put, List.setIfInBounds_toArray, List.set_cons_zero, List.set_cons_succ]
  clear hAf hAr hsr3 hthf G hsr2
  generalize World.setCells _ _ _ _ = W3 at *
  have hAf := hA9
  have hth2 := Hz.mk (At.there hAr3.out 0 18 (by decide))
  have hA10 := Hz.mk (At.setAll hAr3.out (Fr.vals ⟨gate, g.e, entR g n A⟩) (by rw [Fr.len]; rfl))
  have G4 := Hz.mk (Gr.setCells G3.out kr (by omega) (Fr.vals ⟨gate, g.e, entR g n A⟩) 0)
  go_upto_region 4 with fail
  refine wp_region_lit ?_
  refine wpList_plain rfl (fun K hK => ?_)
  refine wp_load_mid _ _ rfl _ 0 rfl (Fr.vals ⟨gate, g.e, entR g n A⟩) _ hAf.out.range Tryz.underlying69 rfl (by rw [Fr.len]; kernel_rfl) (hK _ _ ?_)
  clear hK K
  try simp only [Act.put, List.setIfInBounds_toArray, List.set_cons_zero, List.set_cons_succ]
  refine wpList_plain rfl (fun K hK => ?_)
  refine wp_store_mid _ _ _ rfl _ _ (List.toArray (Fr.vals ⟨gate, g.e, entR g n A⟩)) rfl rfl (show World.there _ _ _ _ by simpa [Fr.len] using hth2.out) (by rw [List.size_toArray, Fr.len]; kernel_rfl) (Fr.one _) (hK _ _ ?_)
  clear hK K
  try simp only [Act.put]
  generalize World.setCells _ _ _ _ = W4 at *
  have hrun := Hz.mk (run_loadVar_mid (P := Tryz.prog) W4 kr 0 69 (Fr.vals ⟨gate, g.e, entR g n A⟩) _ hA10.out.range Tryz.underlying69 rfl (by rw [Fr.len]; kernel_rfl))
  go_wp2_with fail
  refine bodyPost_ret (v := .agg (List.toArray (Fr.vals ⟨gate, g.e, entR g n A⟩))) ?_ rfl ⟨rfl, G4.out⟩
  exact results_rowY Tryz.results33 _ _ rfl hrun.out
end Z
end Go.Proofs.YtbichnngepjpnaaGreat


/-
  Stage 13, fastvm: what is touched.
-/
namespace Go.Proofs.YtbichnngepjpnaaGreat
namespace Z
open Go.RowKit
open T (Sep Ob Kp Mf FlIn)

set_option maxRecDepth 100000 in
set_option maxHeartbeats 4000000 in
theorem touch_bad (B : Nat) (W : World) (a : Nat) (P : Pr) (s : Fm) (l : List Ob) (st : Bool) (ad n : Int) (h : MIn B W a P s l) (hn : 1 ≤ n ∧ n ≤ 16) (hq : 65536 - n < ad) :
    Calls Tryz.prog 105 #[.pointer (some ⟨a, 0, none⟩), .bool st, .int .u64 ad, .int .u64 n] W fun x w' => x = .returned (.bool false) ∧ MIn B w' a P { s with e := 7, v := 0, f := 5 } l ∧ Below B W w' := by
  have hf := Hz.mk (h.onBox (s' := { s with e := 7, v := 0, f := 5 }) ⟨rfl, rfl, rfl, rfl, rfl⟩ (fun q hb => fail_any a _ 5 W hb))
  have e1 : IntKind.u64.wrap (65536 - n) = 65536 - n := by simp [IntKind.wrap, IntKind.bits, IntKind.signed]; omega
  replace h := Hz.mk h
  replace hn := Hz.mk hn
  go_enter Tryz.func105, Tryz.ntmps105
  go_wp2_with fail
  refine hf.out.mono ?_
  rintro r V ⟨rfl, h1, h2⟩
  replace h1 := Hz.mk h1
  go_wp2_with fail
  go_ret
  exact ⟨rfl, h1.out, h2⟩
set_option maxRecDepth 100000 in
set_option maxHeartbeats 4000000 in
theorem touch_ok (B : Nat) (W : World) (a : Nat) (P : Pr) (s : Fm) (l : List Ob) (st : Bool) (ad n : Int) (h : MIn B W a P s l) (hn : 1 ≤ n ∧ n ≤ 16) (hq : ad ≤ 65536 - n) (hl : s.tc.length ≤ 1000000) :
    Calls Tryz.prog 105 #[.pointer (some ⟨a, 0, none⟩), .bool st, .int .u64 ad, .int .u64 n] W fun x w' => x = .returned (.bool true) ∧ MIn B w' a P { s with tc := s.tc ++ [⟨st, ad, n⟩] } l ∧ Below B W w' := by
  have hq2 : ¬ 65536 - n < ad := by omega
  have e1 : IntKind.u64.wrap (65536 - n) = 65536 - n := by simp [IntKind.wrap, IntKind.bits, IntKind.signed]; omega
  obtain ⟨⟨q, h1⟩, le⟩ := h
  have hb := h1.ins (bxOb a (bxOf P s q)) (by simp [obs])
  have hO : W.ownsRow B 60 3 q.tv s.tc.length (s.tc.flatMap Tc.vals) := h1.ins (tcOb B q.tv s.tc) (by simp [obs])
  obtain ⟨ta, tk, etv⟩ := own_slZ hO
  have c25 : W.cell? ⟨a, 25, none⟩ = some (.slice ta s.tc.length tk) := by rw [← etv]; exact hb.at_ 25 (by omega)
  have hfr : ∀ V, Below W.heap.size W V → ∀ {g : Nat}, V.frozen? ⟨a, 25, none⟩ = false := fun V k _ => (T.frozen_of_block (k.block a hb.lt) 25).trans (hb.fr 25)
  have hlt := hb.lt
  have hap : Hz (∀ V W2 g cap, Gr W V → W2.ownsRow B 60 3 (.slice (some ⟨g, 0, none⟩) (s.tc.length + 1) cap) (s.tc.length + 1) (s.tc.flatMap Tc.vals ++ [Value.bool st, .int .u64 ad, .int .u64 n]) → V.grownBy W2 (Value.slice ta s.tc.length tk).ownBlock → ((Value.slice ta s.tc.length tk).ownBlock = some g ∨ g = V.heap.size) → (∃ u, W2.cell? ⟨a, 25, none⟩ = some u) ∧ W2.frozen? ⟨a, 25, none⟩ = false ∧ MIn B (W2.setCell ⟨a, 25, none⟩ (.slice (some ⟨g, 0, none⟩) (s.tc.length + 1) cap)) a P { s with tc := s.tc ++ [⟨st, ad, n⟩] } l ∧ Below B W (W2.setCell ⟨a, 25, none⟩ (.slice (some ⟨g, 0, none⟩) (s.tc.length + 1) cap))) := Hz.mk (fun V W2 g cap g1 k1 k2 k3 => by
    rw [← etv] at k2 k3
    have r := MIn.app_tc ⟨st, ad, n⟩ (h1.gr g1.below) (Nat.le_trans le g1.below.size) k1 k2 k3
    have hbV := (h1.gr g1.below).ins (bxOb a (bxOf P s q)) (by simp [obs])
    have hd : q.tv.ownBlock ≠ some a := fun e => by
      have := (List.pairwise_cons.1 h1.dis).1 (tcOb B q.tv s.tc) (by simp) a rfl
      exact this e
    have hb2 := Bx.keep hbV (kp_grown k2) hd
    exact ⟨⟨_, hb2.at_ 25 (by omega)⟩, hb2.fr 25, r.1, (g1.below.mono le).trans r.2⟩)
  have hO2 : Hz (∀ V, Gr W V → V.ownsRow B 60 3 (.slice ta s.tc.length tk) s.tc.length (s.tc.flatMap Tc.vals)) := Hz.mk (fun V g => by rw [← etv]; exact own_keep hO (Kp.of_below (S := fun _ => False) g.below) (fun _ _ r => r))
  clear hfr etv hO hb h1
  replace hn := Hz.mk hn
  generalize s.tc.flatMap Tc.vals = xs at *
  go_enter Tryz.func105, Tryz.ntmps105
  go_upto_region 4 with fail
  refine wp_region_lit ?_
  refine wpList_plain rfl (fun K hK => ?_)
  go_simp
  with_reducible refine hK _ _ ?_
  clear hK K
  try simp only [Act.put, List.setIfInBounds_toArray, List.set_cons_zero, List.set_cons_succ]
  refine wpList_plain rfl (fun K hK => ?_)
  go_simp
  with_reducible refine hK _ _ ?_
  clear hK K
  try simp only [Act.put, List.setIfInBounds_toArray, List.set_cons_zero, List.set_cons_succ]
  refine wpList_plain rfl (fun K hK => ?_)
  go_simp
  with_reducible refine hK _ _ ?_
  clear hK K
  try simp only [Act.put, List.setIfInBounds_toArray, List.set_cons_zero, List.set_cons_succ]
  refine wpList_plain rfl (fun K hK => ?_)
  go_simp
  with_reducible refine hK _ _ ?_
  clear hK K
  try simp only [Act.put, List.setIfInBounds_toArray, List.set_cons_zero, List.set_cons_succ]
  refine wpList_plain rfl (fun K hK => ?_)
  go_simp
  with_reducible refine hK _ _ ?_
  clear hK K
  try simp only [Act.put, List.setIfInBounds_toArray, List.set_cons_zero, List.set_cons_succ]
  refine wpList_plain rfl (fun K hK => ?_)
  go_simp
  with_reducible refine hK _ _ ?_
  clear hK K
  try simp only [Act.put, List.setIfInBounds_toArray, List.set_cons_zero, List.set_cons_succ]
  refine wpList_plain rfl (fun K hK => ?_)
  go_simp
  with_reducible refine hK _ _ ?_
  clear hK K
  try simp only [Act.put, List.setIfInBounds_toArray, List.set_cons_zero, List.set_cons_succ]
  refine wpList_plain rfl (fun K hK => ?_)
  go_simp
  with_reducible refine hK _ _ ?_
  clear hK K
  try simp only [Act.put, List.setIfInBounds_toArray, List.set_cons_zero, List.set_cons_succ]
  refine wpList_plain rfl (fun K hK => ?_)
  go_simp
  with_reducible refine hK _ _ ?_
  clear hK K
  try simp only [Act.put, List.setIfInBounds_toArray, List.set_cons_zero, List.set_cons_succ]
  refine wpList_plain rfl (fun K hK => ?_)
  go_simp
  with_reducible refine hK _ _ ?_
  clear hK K
  try simp only [Act.put, List.setIfInBounds_toArray, List.set_cons_zero, List.set_cons_succ]
  have hX := At.new W #[Value.bool st, .int .u64 ad, .int .u64 n] 60
  have gX : Gr W (W.alloc (.cells #[Value.bool st, .int .u64 ad, .int .u64 n] 60)) := (Gr.refl W).alloc _
  generalize W.alloc (.cells #[Value.bool st, .int .u64 ad, .int .u64 n] 60) = V at *
  generalize W.heap.size = kX at *
  refine wpList_plain rfl (fun K hK => ?_)
  refine wp_append_z _ _ 46 60 (.agg #[.bool false, .int .u64 0, .int .u64 0]) 3 24 rfl Tryz.underlying46 (by kernel_rfl) (by kernel_rfl) (by decide) (by decide) B (.slice ta s.tc.length tk) s.tc.length xs [Value.bool st, .int .u64 ad, .int .u64 n] (by rfl) (hO2.out V gX) kX (by rfl) hX rfl (by simp [Value.oneCell']) hl (Nat.le_trans le (Nat.le_of_lt hX.1)) ?_
  intro g cap W2 k1 k2 k3
  obtain ⟨⟨u, cu⟩, fu, hM, hBe⟩ := hap.out V W2 g cap gX k1 k2 k3
  replace hM := Hz.mk hM
  clear hap hO2 k1 k2 k3
  have hlt2 := World.block_lt_of_cell? W2 _ cu
  with_reducible refine hK _ _ ?_
  clear hK K
  try simp only [Act.put, List.setIfInBounds_toArray, List.set_cons_zero, List.set_cons_succ]
  refine wpList_plain rfl (fun K hK => ?_)
  go_simp
  with_reducible refine hK _ _ ?_
  clear hK K
  try simp only [Act.put, List.setIfInBounds_toArray, List.set_cons_zero, List.set_cons_succ]
  refine wpList_plain rfl (fun K hK => ?_)
  go_simp
  with_reducible refine hK _ _ ?_
  clear hK K
  try simp only [Act.put, List.setIfInBounds_toArray, List.set_cons_zero, List.set_cons_succ]
  refine wpList_plain rfl (fun K hK => ?_)
  go_simp
  with_reducible refine hK _ _ ?_
  clear hK K
  try simp only [Act.put]
  go_wp2_with fail
  go_ret
  exact ⟨rfl, hM.out, hBe⟩
end Z
end Go.Proofs.YtbichnngepjpnaaGreat
