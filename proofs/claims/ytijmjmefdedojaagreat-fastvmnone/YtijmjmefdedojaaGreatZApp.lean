/-
  Stage 13, fastvm: lists that grow.
-/
import Derived.Test.YtijmjmefdedojaaGreatZIn
namespace Go.Proofs.YtijmjmefdedojaaGreat
namespace Z
open Go.RowKit
open T (Sep Ob Kp Mf FlIn)

theorem addr_addZ (b off j : Nat) : (⟨b, off, none⟩ : Addr).add j = ⟨b, off + j, none⟩ := by by_cases h0 : j = 0 <;> simp [Addr.add, h0]
/-- One element appended to a list that is owned. -/
theorem wp_append_z {o : Oper} {a : Act} {K : Act → World → Prop} {Q : Exit → Act → World → Prop} {w : World} (s x : Operand) (t e : TypeId) (z : Value) (size bytes : Nat)
    (ho : o.op = .call { callee := .builtin .append, args := #[s, x], argTypes := #[t, t] }) (ht : Tryz.prog.underlying t = some (.slice e))
    (hi : (Tryz.prog.info? e).map (fun i => (i.zero, i.size, i.bytes)) = some (some z, size, bytes)) (hz : z.cells.size = size) (hsz : 0 < size) (hby : bytes ≤ 2048)
    (base : Nat) (v : Value) (n : Nat) (xs cs : List Value) (hs : a.eval s = v) (hown : w.ownsRow base e size v n xs) (X : Nat) (hx : a.eval x = .slice (some ⟨X, 0, none⟩) 1 1) (hX : At w X cs.toArray) (hc : cs.length = size) (h1 : ∀ u ∈ cs, u.oneCell' = true)
    (hlen : n ≤ 1000000) (hbase : base ≤ w.heap.size)
    (h : ∀ g cap w', w'.ownsRow base e size (.slice (some ⟨g, 0, none⟩) (n + 1) cap) (n + 1) (xs ++ cs) → w.grownBy w' v.ownBlock → (v.ownBlock = some g ∨ g = w.heap.size) → K (a.put o.dst (.slice (some ⟨g, 0, none⟩) (n + 1) cap)) w') : o.wp Tryz.prog a w K Q := by
  obtain ⟨i0, hi0, hz0, hz1, hz2⟩ := T.info_parts' hi
  have hb : (n + 1) * bytes ≤ 140737488355328 := Nat.le_trans (Nat.mul_le_mul_left _ hby) (by omega)
  have hn : ∀ j u, cs[j]? = some u → w.cell? ((⟨X, 0, none⟩ : Addr).add j) = some u := by
    intro j u hj
    rw [addr_addZ, Nat.zero_add, hX.2.1]
    simpa using hj
  refine wp_append_lies _ s x t ho base e i0 z size bytes ht hi0 hz0 hz1 hz2 hz hsz v n xs hs hown ⟨X, 0, none⟩ 1 1 cs hx (by omega) hn h1 (by decide) (by unfold maxLen; omega) hb hbase _ rfl ?_
  intro g cap w' k1 k2 k3 _
  exact h g cap w' k1 k2 k3
theorem kp_grown {w w1 : World} {row : Option Nat} (h : w.grownBy w1 row) : Kp (fun k => row = some k) w w1 := ⟨h.os, h.tape, h.output, h.size, fun k hk hn => h.block k hk (fun e => hn e.symm)⟩
theorem own_slZ {w : World} {lo e s n : Nat} {v : Value} {xs : List Value} (h : w.ownsRow lo e s v n xs) : ∃ a c, v = .slice a n c := by
  rcases h.2 with ⟨rfl, rfl⟩ | ⟨g, cap, cur, rfl, _⟩
  · exact ⟨none, 0, rfl⟩
  · exact ⟨_, _, rfl⟩
section
variable {B : Nat} {W W2 : World} {a : Nat} {P : Pr} {s : Fm} {l : List Ob} {q : Pt}
theorem sep_box (x x' : Fx) {l2 : List Ob} (h : Sep B W (bxOb a x :: l2)) (v : Value) (j : Nat) (hb : Bx W a x → Bx (W.setCell ⟨a, j, none⟩ v) a x') (hB : B ≤ W.heap.size) : Sep B (W.setCell ⟨a, j, none⟩ v) (bxOb a x' :: l2) ∧ Below B W (W.setCell ⟨a, j, none⟩ v) := by
  have hk : Kp (fun k => k = a) W (W.setCell ⟨a, j, none⟩ v) := Kp.set (S := fun k => k = a) W ⟨a, j, none⟩ v rfl
  exact ⟨sep_change (l1 := []) (o := bxOb a x) (o' := bxOb a x') h (hb (h.ins (bxOb a x) (by simp))) hk (fun _ r => .inl r) hB, sep_below (l1 := []) (o := bxOb a x) h hk hB⟩
theorem MIn.app_tc (t : Tc) (h : Sep B W (obs B a P s q ++ l)) (le : B ≤ W.heap.size) {g cap : Nat} (hown : W2.ownsRow B 49 3 (.slice (some ⟨g, 0, none⟩) (s.tc.length + 1) cap) (s.tc.length + 1) (s.tc.flatMap Tc.vals ++ t.vals)) (gr : W.grownBy W2 q.tv.ownBlock) (hg : q.tv.ownBlock = some g ∨ g = W.heap.size) :
    MIn B (W2.setCell ⟨a, 25, none⟩ (.slice (some ⟨g, 0, none⟩) (s.tc.length + 1) cap)) a P { s with tc := s.tc ++ [t] } l ∧ Below B W (W2.setCell ⟨a, 25, none⟩ (.slice (some ⟨g, 0, none⟩) (s.tc.length + 1) cap)) := by
  have hk := kp_grown gr
  have h1 := sep_change (l1 := [bxOb a (bxOf P s q), flOb q.F q.mp s.m, stOb B q.sv s.st, inOb q.iv s.inp, ouOb B q.ov_ s.out]) (o := tcOb B q.tv s.tc) (o' := tcOb B (.slice (some ⟨g, 0, none⟩) (s.tc.length + 1) cap) (s.tc ++ [t])) (l2 := pgOb q.SP q.cv q.gv P :: l) h (by
    show W2.ownsRow B _ 3 _ (s.tc ++ [t]).length ((s.tc ++ [t]).flatMap Tc.vals)
    rw [List.length_append, List.flatMap_append]
    simpa using hown) hk (fun k r => by
    have e : g = k := by simpa [tcOb, rowOb, Value.ownBlock] using r
    rcases hg with u | u
    · exact .inl (e ▸ u)
    · exact .inr (by omega)) le
  have b1 := sep_below (l1 := [bxOb a (bxOf P s q), flOb q.F q.mp s.m, stOb B q.sv s.st, inOb q.iv s.inp, ouOb B q.ov_ s.out]) (o := tcOb B q.tv s.tc) (l2 := pgOb q.SP q.cv q.gv P :: l) h hk le
  obtain ⟨h2, b2⟩ := sep_box (bxOf P s q) (bxOf P { s with tc := s.tc ++ [t] } { q with tv := .slice (some ⟨g, 0, none⟩) (s.tc.length + 1) cap }) h1 (.slice (some ⟨g, 0, none⟩) (s.tc.length + 1) cap) 25 (fun hb => hb.tv _) (Nat.le_trans le b1.size)
  exact ⟨⟨⟨{ q with tv := .slice (some ⟨g, 0, none⟩) (s.tc.length + 1) cap }, h2⟩, Nat.le_trans le (b1.trans b2).size⟩, b1.trans b2⟩
theorem MIn.app_out (t : Int) (h : Sep B W (obs B a P s q ++ l)) (le : B ≤ W.heap.size) {g cap : Nat} (hown : W2.ownsRow B 25 1 (.slice (some ⟨g, 0, none⟩) (s.out.length + 1) cap) (s.out.length + 1) (s.out.map u64I ++ [u64I t])) (gr : W.grownBy W2 q.ov_.ownBlock) (hg : q.ov_.ownBlock = some g ∨ g = W.heap.size) :
    Bx W2 a (bxOf P s q) ∧ (∀ o ∈ l, o.In W2) ∧ MIn B (W2.setCell ⟨a, 24, none⟩ (.slice (some ⟨g, 0, none⟩) (s.out.length + 1) cap)) a P { s with out := s.out ++ [t] } l ∧ Below B W (W2.setCell ⟨a, 24, none⟩ (.slice (some ⟨g, 0, none⟩) (s.out.length + 1) cap)) := by
  have hk := kp_grown gr
  have h1 := sep_change (l1 := [bxOb a (bxOf P s q), flOb q.F q.mp s.m, stOb B q.sv s.st, inOb q.iv s.inp]) (o := ouOb B q.ov_ s.out) (o' := ouOb B (.slice (some ⟨g, 0, none⟩) (s.out.length + 1) cap) (s.out ++ [t])) (l2 := tcOb B q.tv s.tc :: pgOb q.SP q.cv q.gv P :: l) h (by
    show W2.ownsRow B _ 1 _ (s.out ++ [t]).length ((s.out ++ [t]).map u64I)
    rw [List.length_append, List.map_append]
    simpa using hown) hk (fun k r => by
    have e : g = k := by simpa [ouOb, rowOb, Value.ownBlock] using r
    rcases hg with u | u
    · exact .inl (e ▸ u)
    · exact .inr (by omega)) le
  have b1 := sep_below (l1 := [bxOb a (bxOf P s q), flOb q.F q.mp s.m, stOb B q.sv s.st, inOb q.iv s.inp]) (o := ouOb B q.ov_ s.out) (l2 := tcOb B q.tv s.tc :: pgOb q.SP q.cv q.gv P :: l) h hk le
  obtain ⟨h2, b2⟩ := sep_box (bxOf P s q) (bxOf P { s with out := s.out ++ [t] } { q with ov_ := .slice (some ⟨g, 0, none⟩) (s.out.length + 1) cap }) h1 (.slice (some ⟨g, 0, none⟩) (s.out.length + 1) cap) 24 (fun hb => hb.ov _) (Nat.le_trans le b1.size)
  refine ⟨h1.ins (bxOb a (bxOf P s q)) (by simp), fun o ho => h1.ins o (by simp [ho]), ?_⟩
  exact ⟨⟨⟨{ q with ov_ := .slice (some ⟨g, 0, none⟩) (s.out.length + 1) cap }, h2⟩, Nat.le_trans le (b1.trans b2).size⟩, b1.trans b2⟩
theorem MIn.app_st (t : Fr) (h : Sep B W (obs B a P s q ++ l)) (le : B ≤ W.heap.size) {g cap : Nat} (hown : W2.ownsRow B 70 18 (.slice (some ⟨g, 0, none⟩) (s.st.length + 1) cap) (s.st.length + 1) (s.st.flatMap Fr.vals ++ t.vals)) (gr : W.grownBy W2 q.sv.ownBlock) (hg : q.sv.ownBlock = some g ∨ g = W.heap.size) :
    Bx W2 a (bxOf P s q) ∧ (∀ o ∈ l, o.In W2) ∧ MIn B (W2.setCell ⟨a, 22, none⟩ (.slice (some ⟨g, 0, none⟩) (s.st.length + 1) cap)) a P { s with st := s.st ++ [t] } l ∧ Below B W (W2.setCell ⟨a, 22, none⟩ (.slice (some ⟨g, 0, none⟩) (s.st.length + 1) cap)) := by
  have hk := kp_grown gr
  have h1 := sep_change (l1 := [bxOb a (bxOf P s q), flOb q.F q.mp s.m]) (o := stOb B q.sv s.st) (o' := stOb B (.slice (some ⟨g, 0, none⟩) (s.st.length + 1) cap) (s.st ++ [t])) (l2 := inOb q.iv s.inp :: ouOb B q.ov_ s.out :: tcOb B q.tv s.tc :: pgOb q.SP q.cv q.gv P :: l) h (by
    show W2.ownsRow B _ 18 _ (s.st ++ [t]).length ((s.st ++ [t]).flatMap Fr.vals)
    rw [List.length_append, List.flatMap_append]
    simpa using hown) hk (fun k r => by
    have e : g = k := by simpa [stOb, rowOb, Value.ownBlock] using r
    rcases hg with u | u
    · exact .inl (e ▸ u)
    · exact .inr (by omega)) le
  have b1 := sep_below (l1 := [bxOb a (bxOf P s q), flOb q.F q.mp s.m]) (o := stOb B q.sv s.st) (l2 := inOb q.iv s.inp :: ouOb B q.ov_ s.out :: tcOb B q.tv s.tc :: pgOb q.SP q.cv q.gv P :: l) h hk le
  obtain ⟨h2, b2⟩ := sep_box (bxOf P s q) (bxOf P { s with st := s.st ++ [t] } { q with sv := .slice (some ⟨g, 0, none⟩) (s.st.length + 1) cap }) h1 (.slice (some ⟨g, 0, none⟩) (s.st.length + 1) cap) 22 (fun hb => hb.sv _) (Nat.le_trans le b1.size)
  refine ⟨h1.ins (bxOb a (bxOf P s q)) (by simp), fun o ho => h1.ins o (by simp [ho]), ?_⟩
  exact ⟨⟨⟨{ q with sv := .slice (some ⟨g, 0, none⟩) (s.st.length + 1) cap }, h2⟩, Nat.le_trans le (b1.trans b2).size⟩, b1.trans b2⟩
/-- An input is taken. -/
theorem MIn.take (L : List Int) (v : Value) (h : Sep B W (obs B a P s q ++ l)) (le : B ≤ W.heap.size) (hv : IvIn W v L) (hb : v.ownBlock = q.iv.ownBlock) :
    MIn B (W.setCell ⟨a, 23, none⟩ v) a P { s with inp := L } l ∧ Below B W (W.setCell ⟨a, 23, none⟩ v) := by
  have h1 := sep_change (W' := W) (l1 := [bxOb a (bxOf P s q), flOb q.F q.mp s.m, stOb B q.sv s.st]) (o := inOb q.iv s.inp) (o' := inOb v L) (l2 := ouOb B q.ov_ s.out :: tcOb B q.tv s.tc :: pgOb q.SP q.cv q.gv P :: l) h hv (Kp.refl _ W) (fun k r => .inl (by
    show q.iv.ownBlock = some k
    rw [← hb]
    exact r)) le
  obtain ⟨h2, b2⟩ := sep_box (bxOf P s q) (bxOf P { s with inp := L } { q with iv := v }) h1 v 23 (fun hb => hb.iv _) le
  exact ⟨⟨⟨{ q with iv := v }, h2⟩, Nat.le_trans le b2.size⟩, b2⟩
/-- A call on a machine's memory. -/
theorem MIn.onMem (h : MIn B W a P s l) : ∃ km, W.cell? ⟨a, 3, none⟩ = some (.pointer (some ⟨km, 0, none⟩)) ∧ ∃ F, FlIn F W km s.m ∧ ∀ W' F' m', FlIn F' W' km m' → Mf F F' W W' → MIn B W' a P { s with m := m' } l ∧ Below B W W' ∧ W'.cell? ⟨a, 3, none⟩ = some (.pointer (some ⟨km, 0, none⟩)) := by
  obtain ⟨⟨q, h1⟩, le⟩ := h
  have hB := h1.ins (bxOb a (bxOf P s q)) (by simp [obs])
  refine ⟨q.mp, hB.at_ 3 (by omega), q.F, h1.ins (flOb q.F q.mp s.m) (by simp [obs]), fun W' F' m' e1 e2 => ?_⟩
  have h2 := sep_change (l1 := [bxOb a (bxOf P s q)]) (o := flOb q.F q.mp s.m) (o' := flOb F' q.mp m') h1 e1 e2.kp e2.new le
  have hB2 : Bx W' a (bxOf P s q) := h2.ins (bxOb a (bxOf P s q)) (by simp)
  exact ⟨⟨⟨{ q with F := F' }, h2⟩, Nat.le_trans le e2.kp.size⟩, sep_below (l1 := [bxOb a (bxOf P s q)]) (o := flOb q.F q.mp s.m) h1 e2.kp le, hB2.at_ 3 (by omega)⟩
/-- A store into a machine's memory. -/
theorem MIn.store (h : MIn B W a P s l) (km : Nat) (c3 : W.cell? ⟨a, 3, none⟩ = some (.pointer (some ⟨km, 0, none⟩))) (N m R : Nat) (hN : N < 18446744073709551616) (hm : m < 18446744073709551616) :
    Calls Tryz.prog 110 #[.pointer (some ⟨km, 0, none⟩), .int .u64 N, .int .u64 m, .int .u64 R] W fun x w' => x = .returned (.int .i64 (T.ldE N m)) ∧ MIn B w' a P { s with m := T.stB s.m N m R } l ∧ Below B W w' ∧ w'.cell? ⟨a, 3, none⟩ = some (.pointer (some ⟨km, 0, none⟩)) := by
  obtain ⟨km', c3', F, hF, hk⟩ := h.onMem
  obtain rfl : km = km' := by
    rw [c3] at c3'
    simpa using c3'
  refine (T.flStore_any F km N m R s.m W hF hN hm).mono ?_
  rintro x w' ⟨rfl, F', h1, h2⟩
  exact ⟨rfl, hk _ _ _ h1 h2⟩
theorem MIn.store0 (h : MIn B W a P s l) (km : Nat) (c3 : W.cell? ⟨a, 3, none⟩ = some (.pointer (some ⟨km, 0, none⟩))) (N : Nat) (hN : N + 8 < 18446744073709551616) :
    Calls Tryz.prog 110 #[.pointer (some ⟨km, 0, none⟩), .int .u64 ((N : Int) + 8), .int .u64 8, .int .u64 0] W fun x w' => x = .returned (.int .i64 (T.ldE (N + 8) 8)) ∧ MIn B w' a P { s with m := T.stB s.m (N + 8) 8 0 } l ∧ Below B W w' ∧ w'.cell? ⟨a, 3, none⟩ = some (.pointer (some ⟨km, 0, none⟩)) :=
  h.store km c3 (N + 8) 8 0 hN (by decide)
theorem Gr.cellA (h : MIn B W a P s l) {V : World} (g : Gr W V) {j : Nat} {v : Value} (c : W.cell? ⟨a, j, none⟩ = some v) : V.cell? ⟨a, j, none⟩ = some v := by
  obtain ⟨q, hb⟩ := h.bx
  exact (T.cell_of_block (g.below.block a hb.lt) j).trans c
end
end Z
end Go.Proofs.YtijmjmefdedojaaGreat
