import Derived.Test.YthfphgjjieddjaaGreatZIn
import Derived.Test.YthfphgjjieddjaaGreatZReady
namespace Go.Proofs.YthfphgjjieddjaaGreat
namespace Z
open Go.RowKit
open T (Sep Ob Kp Mf FlIn)

theorem addr_addZ (b off j : Nat) : (⟨b, off, none⟩ : Addr).add j = ⟨b, off + j, none⟩ := by by_cases h0 : j = 0 <;> simp [Addr.add, h0]
theorem wp_append_z {o : Oper} {a : Act} {K : Act → World → Prop} {Q : Exit → Act → World → Prop} {w : World} (s x : Operand) (t e : TypeId) (z : Value) (size bytes : Nat)
   (ho : o.op = .call { callee := .builtin .append, args := #[s, x], argTypes := #[t, t] }) (ht : Tryz.prog.underlying t = some (.slice e))
   (hi : (Tryz.prog.info? e).map (fun i => (i.zero, i.size, i.bytes)) = some (some z, size, bytes)) (hz : z.cells.size = size) (hsz : 0 < size) (hby : bytes ≤ 2048)
   (base : Nat) (v : Value) (n : Nat) (xs cs : List Value) (hs : a.eval s = v) (hown : w.ownsRow base e size v n xs) (X : Nat) (hx : a.eval x = .slice (some ⟨X, 0, none⟩) 1 1) (hX : At w X cs.toArray) (hc : cs.length = size) (h1 : ∀ u ∈ cs, u.oneCell' = true)
   (hlen : n ≤ 1000000) (hbase : base ≤ w.heap.size)
   (h : ∀ g cap w', w'.ownsRow base e size (.slice (some ⟨g, 0, none⟩) (n + 1) cap) (n + 1) (xs ++ cs) → w.grownBy w' v.ownBlock → (v.ownBlock = some g ∨ g = w.heap.size) → K (a.put o.dst (.slice (some ⟨g, 0, none⟩) (n + 1) cap)) w') : o.wp Tryz.prog a w K Q := by
 obtain ⟨i0, hi0, hz0, hz1, hz2⟩ := T.info_parts' hi
 have hb : (n + 1) * bytes ≤ 140737488355328 := Nat.le_trans (Nat.mul_le_mul_left _ hby) (by omega)
 have hn : ∀ j u, cs[j]? = some u → w.cell? ((⟨X, 0, none⟩ : Addr).add j) = some u := by
   intro j u hj
   rw [addr_addZ, Nat.zero_add, hX.2.1]
   simpa using hj
 refine wp_append_lies _ s x t ho base e i0 z size bytes ht hi0 hz0 hz1 hz2 hz hsz v n xs hs hown ⟨X, 0, none⟩ 1 1 cs hx (by omega) hn h1 (by decide) (by unfold maxLen; omega) hb hbase _ rfl ?_
 intro g cap w' k1 k2 k3 _
 exact h g cap w' k1 k2 k3
theorem kp_grown {w w1 : World} {row : Option Nat} (h : w.grownBy w1 row) : Kp (fun k => row = some k) w w1 := ⟨h.os, h.tape, h.output, h.size, fun k hk hn => h.block k hk (fun e => hn e.symm)⟩
theorem own_slZ {w : World} {lo e s n : Nat} {v : Value} {xs : List Value} (h : w.ownsRow lo e s v n xs) : ∃ a c, v = .slice a n c := by
 rcases h.2 with ⟨rfl, rfl⟩ | ⟨g, cap, cur, rfl, _⟩
 · exact ⟨none, 0, rfl⟩
 · exact ⟨_, _, rfl⟩
section
variable {B : Nat} {W W2 : World} {a : Nat} {P : Pr} {s : Fm} {l : List Ob} {q : Pt}
theorem sep_box (x x' : Fx) {l2 : List Ob} (h : Sep B W (bxOb a x :: l2)) (v : Value) (j : Nat) (hb : Bx W a x → Bx (W.setCell ⟨a, j, none⟩ v) a x') (hB : B ≤ W.heap.size) : Sep B (W.setCell ⟨a, j, none⟩ v) (bxOb a x' :: l2) ∧ Below B W (W.setCell ⟨a, j, none⟩ v) := by
 have hk : Kp (fun k => k = a) W (W.setCell ⟨a, j, none⟩ v) := Kp.set (S := fun k => k = a) W ⟨a, j, none⟩ v rfl
 exact ⟨sep_change (l1 := []) (o := bxOb a x) (o' := bxOb a x') h (hb (h.ins (bxOb a x) (by simp))) hk (fun _ r => .inl r) hB, sep_below (l1 := []) (o := bxOb a x) h hk hB⟩
theorem MIn.app_tc (t : Tc) (h : Sep B W (obs B a P s q ++ l)) (le : B ≤ W.heap.size) {g cap : Nat} (hown : W2.ownsRow B 56 3 (.slice (some ⟨g, 0, none⟩) (s.tc.length + 1) cap) (s.tc.length + 1) (s.tc.flatMap Tc.vals ++ t.vals)) (gr : W.grownBy W2 q.tv.ownBlock) (hg : q.tv.ownBlock = some g ∨ g = W.heap.size) :
   MIn B (W2.setCell ⟨a, 25, none⟩ (.slice (some ⟨g, 0, none⟩) (s.tc.length + 1) cap)) a P { s with tc := s.tc ++ [t] } l ∧ Below B W (W2.setCell ⟨a, 25, none⟩ (.slice (some ⟨g, 0, none⟩) (s.tc.length + 1) cap)) := by
 have hk := kp_grown gr
 have h1 := sep_change (l1 := [bxOb a (bxOf P s q), flOb q.F q.mp s.m, stOb B q.sv s.st, inOb q.iv s.inp, ouOb B q.ov_ s.out]) (o := tcOb B q.tv s.tc) (o' := tcOb B (.slice (some ⟨g, 0, none⟩) (s.tc.length + 1) cap) (s.tc ++ [t])) (l2 := pgOb q.SP q.cv q.gv P :: l) h (by
   show W2.ownsRow B _ 3 _ (s.tc ++ [t]).length ((s.tc ++ [t]).flatMap Tc.vals)
   rw [List.length_append, List.flatMap_append]
   simpa using hown) hk (fun k r => by
   have e : g = k := by simpa [tcOb, rowOb, Value.ownBlock] using r
   rcases hg with u | u
   · exact .inl (e ▸ u)
   · exact .inr (by omega)) le
 have b1 := sep_below (l1 := [bxOb a (bxOf P s q), flOb q.F q.mp s.m, stOb B q.sv s.st, inOb q.iv s.inp, ouOb B q.ov_ s.out]) (o := tcOb B q.tv s.tc) (l2 := pgOb q.SP q.cv q.gv P :: l) h hk le
 obtain ⟨h2, b2⟩ := sep_box (bxOf P s q) (bxOf P { s with tc := s.tc ++ [t] } { q with tv := .slice (some ⟨g, 0, none⟩) (s.tc.length + 1) cap }) h1 (.slice (some ⟨g, 0, none⟩) (s.tc.length + 1) cap) 25 (fun hb => hb.tv _) (Nat.le_trans le b1.size)
 exact ⟨⟨⟨{ q with tv := .slice (some ⟨g, 0, none⟩) (s.tc.length + 1) cap }, h2⟩, Nat.le_trans le (b1.trans b2).size⟩, b1.trans b2⟩
theorem MIn.app_out (t : Int) (h : Sep B W (obs B a P s q ++ l)) (le : B ≤ W.heap.size) {g cap : Nat} (hown : W2.ownsRow B 34 1 (.slice (some ⟨g, 0, none⟩) (s.out.length + 1) cap) (s.out.length + 1) (s.out.map u64I ++ [u64I t])) (gr : W.grownBy W2 q.ov_.ownBlock) (hg : q.ov_.ownBlock = some g ∨ g = W.heap.size) :
   Bx W2 a (bxOf P s q) ∧ (∀ o ∈ l, o.In W2) ∧ MIn B (W2.setCell ⟨a, 24, none⟩ (.slice (some ⟨g, 0, none⟩) (s.out.length + 1) cap)) a P { s with out := s.out ++ [t] } l ∧ Below B W (W2.setCell ⟨a, 24, none⟩ (.slice (some ⟨g, 0, none⟩) (s.out.length + 1) cap)) := by
 have hk := kp_grown gr
 have h1 := sep_change (l1 := [bxOb a (bxOf P s q), flOb q.F q.mp s.m, stOb B q.sv s.st, inOb q.iv s.inp]) (o := ouOb B q.ov_ s.out) (o' := ouOb B (.slice (some ⟨g, 0, none⟩) (s.out.length + 1) cap) (s.out ++ [t])) (l2 := tcOb B q.tv s.tc :: pgOb q.SP q.cv q.gv P :: l) h (by
   show W2.ownsRow B _ 1 _ (s.out ++ [t]).length ((s.out ++ [t]).map u64I)
   rw [List.length_append, List.map_append]
   simpa using hown) hk (fun k r => by
   have e : g = k := by simpa [ouOb, rowOb, Value.ownBlock] using r
   rcases hg with u | u
   · exact .inl (e ▸ u)
   · exact .inr (by omega)) le
 have b1 := sep_below (l1 := [bxOb a (bxOf P s q), flOb q.F q.mp s.m, stOb B q.sv s.st, inOb q.iv s.inp]) (o := ouOb B q.ov_ s.out) (l2 := tcOb B q.tv s.tc :: pgOb q.SP q.cv q.gv P :: l) h hk le
 obtain ⟨h2, b2⟩ := sep_box (bxOf P s q) (bxOf P { s with out := s.out ++ [t] } { q with ov_ := .slice (some ⟨g, 0, none⟩) (s.out.length + 1) cap }) h1 (.slice (some ⟨g, 0, none⟩) (s.out.length + 1) cap) 24 (fun hb => hb.ov _) (Nat.le_trans le b1.size)
 refine ⟨h1.ins (bxOb a (bxOf P s q)) (by simp), fun o ho => h1.ins o (by simp [ho]), ?_⟩
 exact ⟨⟨⟨{ q with ov_ := .slice (some ⟨g, 0, none⟩) (s.out.length + 1) cap }, h2⟩, Nat.le_trans le (b1.trans b2).size⟩, b1.trans b2⟩
theorem MIn.app_st (t : Fr) (h : Sep B W (obs B a P s q ++ l)) (le : B ≤ W.heap.size) {g cap : Nat} (hown : W2.ownsRow B 74 18 (.slice (some ⟨g, 0, none⟩) (s.st.length + 1) cap) (s.st.length + 1) (s.st.flatMap Fr.vals ++ t.vals)) (gr : W.grownBy W2 q.sv.ownBlock) (hg : q.sv.ownBlock = some g ∨ g = W.heap.size) :
   Bx W2 a (bxOf P s q) ∧ (∀ o ∈ l, o.In W2) ∧ MIn B (W2.setCell ⟨a, 22, none⟩ (.slice (some ⟨g, 0, none⟩) (s.st.length + 1) cap)) a P { s with st := s.st ++ [t] } l ∧ Below B W (W2.setCell ⟨a, 22, none⟩ (.slice (some ⟨g, 0, none⟩) (s.st.length + 1) cap)) := by
 have hk := kp_grown gr
 have h1 := sep_change (l1 := [bxOb a (bxOf P s q), flOb q.F q.mp s.m]) (o := stOb B q.sv s.st) (o' := stOb B (.slice (some ⟨g, 0, none⟩) (s.st.length + 1) cap) (s.st ++ [t])) (l2 := inOb q.iv s.inp :: ouOb B q.ov_ s.out :: tcOb B q.tv s.tc :: pgOb q.SP q.cv q.gv P :: l) h (by
   show W2.ownsRow B _ 18 _ (s.st ++ [t]).length ((s.st ++ [t]).flatMap Fr.vals)
   rw [List.length_append, List.flatMap_append]
   simpa using hown) hk (fun k r => by
   have e : g = k := by simpa [stOb, rowOb, Value.ownBlock] using r
   rcases hg with u | u
   · exact .inl (e ▸ u)
   · exact .inr (by omega)) le
 have b1 := sep_below (l1 := [bxOb a (bxOf P s q), flOb q.F q.mp s.m]) (o := stOb B q.sv s.st) (l2 := inOb q.iv s.inp :: ouOb B q.ov_ s.out :: tcOb B q.tv s.tc :: pgOb q.SP q.cv q.gv P :: l) h hk le
 obtain ⟨h2, b2⟩ := sep_box (bxOf P s q) (bxOf P { s with st := s.st ++ [t] } { q with sv := .slice (some ⟨g, 0, none⟩) (s.st.length + 1) cap }) h1 (.slice (some ⟨g, 0, none⟩) (s.st.length + 1) cap) 22 (fun hb => hb.sv _) (Nat.le_trans le b1.size)
 refine ⟨h1.ins (bxOb a (bxOf P s q)) (by simp), fun o ho => h1.ins o (by simp [ho]), ?_⟩
 exact ⟨⟨⟨{ q with sv := .slice (some ⟨g, 0, none⟩) (s.st.length + 1) cap }, h2⟩, Nat.le_trans le (b1.trans b2).size⟩, b1.trans b2⟩
theorem MIn.take (L : List Int) (v : Value) (h : Sep B W (obs B a P s q ++ l)) (le : B ≤ W.heap.size) (hv : IvIn W v L) (hb : v.ownBlock = q.iv.ownBlock) :
   MIn B (W.setCell ⟨a, 23, none⟩ v) a P { s with inp := L } l ∧ Below B W (W.setCell ⟨a, 23, none⟩ v) := by
 have h1 := sep_change (W' := W) (l1 := [bxOb a (bxOf P s q), flOb q.F q.mp s.m, stOb B q.sv s.st]) (o := inOb q.iv s.inp) (o' := inOb v L) (l2 := ouOb B q.ov_ s.out :: tcOb B q.tv s.tc :: pgOb q.SP q.cv q.gv P :: l) h hv (Kp.refl _ W) (fun k r => .inl (by
   show q.iv.ownBlock = some k
   rw [← hb]
   exact r)) le
 obtain ⟨h2, b2⟩ := sep_box (bxOf P s q) (bxOf P { s with inp := L } { q with iv := v }) h1 v 23 (fun hb => hb.iv _) le
 exact ⟨⟨⟨{ q with iv := v }, h2⟩, Nat.le_trans le b2.size⟩, b2⟩
theorem MIn.onMem (h : MIn B W a P s l) : ∃ km, W.cell? ⟨a, 3, none⟩ = some (.pointer (some ⟨km, 0, none⟩)) ∧ ∃ F, FlIn F W km s.m ∧ ∀ W' F' m', FlIn F' W' km m' → Mf F F' W W' → MIn B W' a P { s with m := m' } l ∧ Below B W W' ∧ W'.cell? ⟨a, 3, none⟩ = some (.pointer (some ⟨km, 0, none⟩)) := by
 obtain ⟨⟨q, h1⟩, le⟩ := h
 have hB := h1.ins (bxOb a (bxOf P s q)) (by simp [obs])
 refine ⟨q.mp, hB.at_ 3 (by omega), q.F, h1.ins (flOb q.F q.mp s.m) (by simp [obs]), fun W' F' m' e1 e2 => ?_⟩
 have h2 := sep_change (l1 := [bxOb a (bxOf P s q)]) (o := flOb q.F q.mp s.m) (o' := flOb F' q.mp m') h1 e1 e2.kp e2.new le
 have hB2 : Bx W' a (bxOf P s q) := h2.ins (bxOb a (bxOf P s q)) (by simp)
 exact ⟨⟨⟨{ q with F := F' }, h2⟩, Nat.le_trans le e2.kp.size⟩, sep_below (l1 := [bxOb a (bxOf P s q)]) (o := flOb q.F q.mp s.m) h1 e2.kp le, hB2.at_ 3 (by omega)⟩
theorem MIn.store (h : MIn B W a P s l) (km : Nat) (c3 : W.cell? ⟨a, 3, none⟩ = some (.pointer (some ⟨km, 0, none⟩))) (N m R : Nat) (hN : N < 18446744073709551616) (hm : m < 18446744073709551616) :
   Calls Tryz.prog 125 #[.pointer (some ⟨km, 0, none⟩), .int .u64 N, .int .u64 m, .int .u64 R] W fun x w' => x = .returned (.int .i64 (T.ldE N m)) ∧ MIn B w' a P { s with m := T.stB s.m N m R } l ∧ Below B W w' ∧ w'.cell? ⟨a, 3, none⟩ = some (.pointer (some ⟨km, 0, none⟩)) := by
 obtain ⟨km', c3', F, hF, hk⟩ := h.onMem
 obtain rfl : km = km' := by
   rw [c3] at c3'
   simpa using c3'
 refine (T.flStore_any F km N m R s.m W hF hN hm).mono ?_
 rintro x w' ⟨rfl, F', h1, h2⟩
 exact ⟨rfl, hk _ _ _ h1 h2⟩
theorem MIn.store0 (h : MIn B W a P s l) (km : Nat) (c3 : W.cell? ⟨a, 3, none⟩ = some (.pointer (some ⟨km, 0, none⟩))) (N : Nat) (hN : N + 8 < 18446744073709551616) :
   Calls Tryz.prog 125 #[.pointer (some ⟨km, 0, none⟩), .int .u64 ((N : Int) + 8), .int .u64 8, .int .u64 0] W fun x w' => x = .returned (.int .i64 (T.ldE (N + 8) 8)) ∧ MIn B w' a P { s with m := T.stB s.m (N + 8) 8 0 } l ∧ Below B W w' ∧ w'.cell? ⟨a, 3, none⟩ = some (.pointer (some ⟨km, 0, none⟩)) :=
 h.store km c3 (N + 8) 8 0 hN (by decide)
theorem Gr.cellA (h : MIn B W a P s l) {V : World} (g : Gr W V) {j : Nat} {v : Value} (c : W.cell? ⟨a, j, none⟩ = some v) : V.cell? ⟨a, j, none⟩ = some v := by
 obtain ⟨q, hb⟩ := h.bx
 exact (T.cell_of_block (g.below.block a hb.lt) j).trans c
end
end Z
end Go.Proofs.YthfphgjjieddjaaGreat


namespace Go.Proofs.YthfphgjjieddjaaGreat
set_option maxRecDepth 100000
set_option maxHeartbeats 40000000
namespace Z
open Go.RowKit
open T (Sep Ob Kp Mf FlIn boxOb)

theorem wp_copy_z {o : Oper} {a : Act} {K : Act → World → Prop} {Q : Exit → Act → World → Prop} {w : World} (d s : Operand) (ho : o.op = .call { callee := .builtin .copy, args := #[d, s], argTypes := #[26, 26] })
   (b off dl dc : Nat) (hd : a.eval d = .slice (some ⟨b, off, none⟩) dl dc) (sa : Option Addr) (n c : Nat) (hs : a.eval s = .slice sa n c) (hn : n ≤ dl) (A : Nat → Int)
   (hsrc : n = 0 ∨ ∃ sb so, sa = some ⟨sb, so, none⟩ ∧ ∀ j, j < n → w.cell? ⟨sb, so + j, none⟩ = some (.int .u64 (A j))) (hth : w.there b off n)
   (h : K (a.put o.dst (goInt n)) (w.setCells b off ((List.range n).map fun j => Value.int .u64 (A j)))) : o.wp Tryz.prog a w K Q := by
 have hl : ((List.range n).map fun j => Value.int .u64 (A j)).length = n := by simp
 have hr : (Builtin.copy_ #[26, 26] o.type #[.slice (some ⟨b, off, none⟩) dl dc, .slice sa n c]).run Tryz.prog w = .ok (goInt n) (w.setCells b off ((List.range n).map fun j => Value.int .u64 (A j))) := by
   rcases hsrc with h0 | ⟨sb, so, rfl, hc⟩
   · subst h0
     have := run_copy_none (P := Tryz.prog) w 26 26 o.type 34 (some ⟨b, off, none⟩) sa dl dc 0 c Tryz.underlying26 (by kernel_rfl) (by simp)
     rw [show ((List.range 0).map fun j => Value.int .u64 (A j)) = [] from rfl]
     exact this
   · have := run_copy_cells (P := Tryz.prog) w 26 26 o.type 34 b off dl dc ⟨sb, so, none⟩ n c ((List.range n).map fun j => Value.int .u64 (A j)) Tryz.underlying26 (by kernel_rfl) (by rw [hl]; exact (Nat.min_eq_left hn).symm) (fun j v q => ?_) (fun j hj => (hth j (by rwa [hl] at hj)).1) (fun j hj => (hth j (by rwa [hl] at hj)).2) (fun v hv => by obtain ⟨j, _, rfl⟩ := List.mem_map.1 hv; rfl)
     · rw [hl] at this
       exact this
     · have hj : j < n := by have := (List.getElem?_eq_some_iff.1 q).1; rwa [hl] at this
       rw [addr_addZ, hc j hj, ← q]
       simp [hj]
 unfold Oper.wp execOp
 simp only [ho, resolve, invoke, builtin, Sem.run_bind, Sem.run_pure, Result.andThen_ok, List.map_toArray, List.map_cons, List.map_nil, hd, hs, hr]
 exact h
def entR (g : Fg) (n : Nat) (A : Nat → Int) : Nat → Int := fun k => if 1 ≤ k ∧ k ≤ n then A (k - 1) else g.r k
theorem Fr.len (f : Fr) : f.vals.length = 18 := by simp [Fr.vals, regs_len]
theorem Fr.reg (f : Fr) (k : Nat) (h : k < 16) : f.vals[2 + k]? = some (.int .u64 (f.r k)) := by
 rw [show 2 + k = k + 1 + 1 by omega]
 exact regs_at f.r k h
theorem at_ent {w : World} {b gate n : Nat} {g : Fg} (A : Nat → Int) (h : At w b (Fr.vals ⟨gate, g.e, g.r⟩).toArray) (hn : n ≤ 15) : At (w.setCells b 3 ((List.range n).map fun j => Value.int .u64 (A j))) b (Fr.vals ⟨gate, g.e, entR g n A⟩).toArray := by
 have hl : ((List.range n).map fun j => Value.int .u64 (A j)).length = n := by simp
 refine At.setRange h 3 _ (by rw [Fr.len, Fr.len]) (by rw [hl, Fr.len]; omega) (fun j hj => ?_) (fun i hi => ?_)
 · rw [hl] at hj
   rw [show 3 + j = 2 + (j + 1) by omega, Fr.reg _ (j + 1) (by omega)]
   show some (Value.int .u64 (entR g n A (j + 1))) = _
   unfold entR
   rw [if_pos ⟨by omega, by omega⟩]
   simp [hj]
 · rw [hl] at hi
   by_cases h18 : i < 18
   · by_cases h2 : i < 2
     · match i, h2 with
       | 0, _ => rfl
       | 1, _ => rfl
     · rw [show i = 2 + (i - 2) by omega, Fr.reg _ (i - 2) (by omega), Fr.reg _ (i - 2) (by omega)]
       show some (Value.int .u64 (entR g n A (i - 2))) = some (.int .u64 (g.r (i - 2)))
       unfold entR
       rw [if_neg (by omega)]
   · rw [List.getElem?_eq_none (by rw [Fr.len]; omega), List.getElem?_eq_none (by rw [Fr.len]; omega)]
theorem Fr.one (f : Fr) : f.vals.toArray.all (fun x => x.oneCell') = true := by
 rw [Array.all_eq_true_iff_forall_mem]
 intro u hu
 simp only [List.mem_toArray, Fr.vals, List.mem_cons] at hu
 rcases hu with rfl | rfl | hu
 · rfl
 · rfl
 · exact regs_one f.r u hu
theorem results_rowY {fn : Func} {p : Tmp} {ty : TypeId} {v : Value} {a : Addr} (h : fn.results = #[.cell p ty]) (tmps : Array Value) (w : World) (ht : tmps.getD p undef = .pointer (some a)) (hl : (loadVar ty a).run Tryz.prog w = .ok v w) :
   (results fn tmps).run Tryz.prog w = .ok v w := by
 have ht' : tmps[p]?.getD undef = .pointer (some a) := by simpa using ht
 simp [results, h, ht', asAddr, hl]
theorem build_fr (x y : Int) (r : Nat → Int) (W : World) : (Instr.build 74 #[(0, .int .i64 x), (1, .int .i64 y), (2, .agg (regs r).toArray)]).run Tryz.prog W = .ok (.agg (Value.int .i64 x :: .int .i64 y :: regs r).toArray) W := by kernel_rfl
theorem wp_build_fr {o : Oper} {a : Act} {K : Act → World → Prop} {Q : Exit → Act → World → Prop} {w : World} (i j k : Operand) (ho : o.op = .build 74 #[(0, i), (1, j), (2, k)]) (x y : Int) (r : Nat → Int) (hi : a.eval i = .int .i64 x) (hj : a.eval j = .int .i64 y) (hk : a.eval k = .agg (regs r).toArray)
   (h : K (a.put o.dst (.agg (Value.int .i64 x :: .int .i64 y :: regs r).toArray)) w) : o.wp Tryz.prog a w K Q := by
 unfold Oper.wp execOp
 simp only [ho, List.map_toArray, List.map_cons, List.map_nil, hi, hj, hk, build_fr, Sem.run_bind, Sem.run_pure, Result.andThen_ok]
 exact h
theorem entered_any (g : Fg) (gb goff gn gc gate : Nat) (sa : Option Addr) (n c : Nat) (A : Nat → Int) (w : World) (hlt : gate < gn) (hgb : gb < w.heap.size) (hgr : w.rangeAt gb (goff + gate * 19) g.vals) (hn : n ≤ 15) (hsrc : n = 0 ∨ ∃ sb so, sa = some ⟨sb, so, none⟩ ∧ sb < w.heap.size ∧ ∀ j, j < n → w.cell? ⟨sb, so + j, none⟩ = some (.int .u64 (A j))) :
   Calls Tryz.prog 32 #[.slice (some ⟨gb, goff, none⟩) gn gc, .int .i64 gate, .slice sa n c] w fun x w' => x = .returned (.agg (Fr.vals ⟨gate, g.e, entR g n A⟩).toArray) ∧ Gr w w' := by
 have hi : (gate : Int) < (gn : Int) := Int.ofNat_lt.2 hlt
 have hsr2 : Hz (∀ X, Gr w X → n = 0 ∨ ∃ sb so, sa = some ⟨sb, so, none⟩ ∧ ∀ j, j < n → X.cell? ⟨sb, so + j, none⟩ = some (.int .u64 (A j))) := Hz.mk (fun X q => by
   rcases hsrc with h0 | ⟨sb, so, e1, e2, e3⟩
   · exact .inl h0
   · exact .inr ⟨sb, so, e1, fun j hj => (T.cell_of_block (q.below.block sb e2) _).trans (e3 j hj)⟩)
 clear hsrc
 go_enter Tryz.func32, Tryz.ntmps32
 go_upto_region 1 with fail
 refine wp_world (fun X => At X w.heap.size (List.toArray [Value.int .i64 0, .int .i64 0, .int .u64 0, .int .u64 0, .int .u64 0, .int .u64 0, .int .u64 0, .int .u64 0, .int .u64 0, .int .u64 0, .int .u64 0, .int .u64 0, .int .u64 0, .int .u64 0, .int .u64 0, .int .u64 0, .int .u64 0, .int .u64 0]) ∧ Gr w X) ⟨At.new w _ _, (Gr.refl _).alloc _⟩ ?_
 rintro W0 ⟨hAr, G⟩
 have hgr1 : Hz (W0.rangeAt gb (goff + gate * 19) g.vals) := Hz.mk (fun j v q => (T.cell_of_block (G.below.block gb hgb) _).trans (hgr j v q))
 have hnr : w.heap.size ≤ w.heap.size := Nat.le_refl _
 generalize hkr : w.heap.size = kr at hAr hnr ⊢
 replace hAr := Hz.mk hAr
 replace hgr := Hz.mk hgr
 refine wp_region_lit ?_
 iterate 3 (refine wpList_plain rfl (fun K hK => ?_); go_simp; with_reducible refine hK _ _ ?_; clear hK K; (try simp only [xap]))
 refine wpList_plain rfl (fun K hK => ?_)
 refine wp_load_mid _ _ rfl _ (goff + gate * 19) rfl g.vals _ hgr1.out Tryz.underlying83 rfl (by rw [Fg.len]; kernel_rfl) (hK _ _ ?_)
 clear hK K
 try simp only [xap]
 refine wpList_plain rfl (fun K hK => ?_)
 go_simp
 with_reducible refine hK _ _ ?_
 clear hK K
 try simp only [xap]
 have hA7 : At (W0.alloc (.cells (List.toArray [Value.int .i64 0, .int .i64 0, .int .i64 0, .int .u64 0, .int .u64 0, .int .u64 0, .int .u64 0, .int .u64 0, .int .u64 0, .int .u64 0, .int .u64 0, .int .u64 0, .int .u64 0, .int .u64 0, .int .u64 0, .int .u64 0, .int .u64 0, .int .u64 0, .int .u64 0]) 83)) W0.heap.size (List.toArray [Value.int .i64 0, .int .i64 0, .int .i64 0, .int .u64 0, .int .u64 0, .int .u64 0, .int .u64 0, .int .u64 0, .int .u64 0, .int .u64 0, .int .u64 0, .int .u64 0, .int .u64 0, .int .u64 0, .int .u64 0, .int .u64 0, .int .u64 0, .int .u64 0, .int .u64 0]) := At.new W0 _ _
 have hth := Hz.mk (At.there hA7 0 19 (by decide))
 have hA8 := Hz.mk (At.setAll hA7 g.vals (by rw [Fg.len]; rfl))
 have g8 := Hz.mk (Gr.setCells ((Gr.refl W0).alloc (.cells (List.toArray [Value.int .i64 0, .int .i64 0, .int .i64 0, .int .u64 0, .int .u64 0, .int .u64 0, .int .u64 0, .int .u64 0, .int .u64 0, .int .u64 0, .int .u64 0, .int .u64 0, .int .u64 0, .int .u64 0, .int .u64 0, .int .u64 0, .int .u64 0, .int .u64 0, .int .u64 0]) 83)) W0.heap.size (Nat.le_refl _) g.vals 0)
 clear hA7
 refine wpList_plain rfl (fun K hK => ?_)
 refine wp_store_mid _ _ _ rfl _ _ (List.toArray g.vals) rfl rfl (show World.there _ _ _ _ by simpa [Fg.len] using hth.out) (by rw [List.size_toArray, Fg.len]; kernel_rfl) (Fg.one _) (hK _ _ ?_)
 clear hK K
 try simp only [Act.put]
 generalize World.setCells _ _ _ _ = W1 at *
 clear hth
 have hs8 : W0.heap.size < W1.heap.size := hA8.out.1
 generalize hk9 : W0.heap.size = kg at *
 have hAg := hA8
 replace hAr := Hz.mk (hAr.out.gr g8.out)
 replace G := G.trans g8.out
 clear hA8 g8 hgr1 hs8 hk9
 have hkr1 : kr < W1.heap.size := hAr.out.1
 have c0 : W1.cell? ⟨kg, 0, none⟩ = some (.int .i64 g.e) := hAg.out.2.1 0
 have hrg : Hz (W1.rangeAt kg 3 (regs g.r)) := Hz.mk (fun j v q => by
   have := hAg.out.range (3 + j) v (by rw [show 3 + j = j + 1 + 1 + 1 by omega]; exact q)
   rwa [Nat.zero_add] at this)
 go_upto_region 2 with fail
 refine wp_region_lit ?_
 iterate 4 (refine wpList_plain rfl (fun K hK => ?_); go_simp; with_reducible refine hK _ _ ?_; clear hK K; (try simp only [xap]))
 refine wpList_plain rfl (fun K hK => ?_)
 refine wp_load_mid _ _ rfl _ 3 rfl (regs g.r) _ hrg.out Tryz.underlying35 rfl (by rw [regs_len]; kernel_rfl) (hK _ _ ?_)
 clear hK K
 try simp only [xap]
 refine wpList_plain rfl (fun K hK => ?_)
 refine wp_build_fr _ _ _ rfl gate g.e g.r (by rfl) (by rfl) (by rfl) ?_
 with_reducible refine hK _ _ ?_
 clear hK K
 try simp only [xap]
 refine wpList_plain rfl (fun K hK => ?_)
 go_simp
 with_reducible refine hK _ _ ?_
 clear hK K
 try simp only [xap]
 have hA7 : At (W1.alloc (.cells (List.toArray [Value.int .i64 0, .int .i64 0, .int .u64 0, .int .u64 0, .int .u64 0, .int .u64 0, .int .u64 0, .int .u64 0, .int .u64 0, .int .u64 0, .int .u64 0, .int .u64 0, .int .u64 0, .int .u64 0, .int .u64 0, .int .u64 0, .int .u64 0, .int .u64 0]) 74)) W1.heap.size (List.toArray [Value.int .i64 0, .int .i64 0, .int .u64 0, .int .u64 0, .int .u64 0, .int .u64 0, .int .u64 0, .int .u64 0, .int .u64 0, .int .u64 0, .int .u64 0, .int .u64 0, .int .u64 0, .int .u64 0, .int .u64 0, .int .u64 0, .int .u64 0, .int .u64 0]) := At.new W1 _ _
 have hth := Hz.mk (At.there hA7 0 18 (by decide))
 have hA8 := Hz.mk (At.setAll hA7 (Fr.vals ⟨gate, g.e, g.r⟩) (by rw [Fr.len]; rfl))
 have g8 := Hz.mk (Gr.setCells ((Gr.refl W1).alloc (.cells (List.toArray [Value.int .i64 0, .int .i64 0, .int .u64 0, .int .u64 0, .int .u64 0, .int .u64 0, .int .u64 0, .int .u64 0, .int .u64 0, .int .u64 0, .int .u64 0, .int .u64 0, .int .u64 0, .int .u64 0, .int .u64 0, .int .u64 0, .int .u64 0, .int .u64 0]) 74)) W1.heap.size (Nat.le_refl _) (Fr.vals ⟨gate, g.e, g.r⟩) 0)
 clear hA7
 refine wpList_plain rfl (fun K hK => ?_)
 refine wp_store_mid _ _ _ rfl _ _ (List.toArray (Fr.vals ⟨gate, g.e, g.r⟩)) rfl rfl (show World.there _ _ _ _ by simpa [Fr.len] using hth.out) (by rw [List.size_toArray, Fr.len]; kernel_rfl) (Fr.one _) (hK _ _ ?_)
 clear hK K
 try simp only [Act.put]
 generalize World.setCells _ _ _ _ = W2 at *
 clear hth
 have hs8 : W1.heap.size < W2.heap.size := hA8.out.1
 generalize hk9 : W1.heap.size = kf at *
 have hAf := hA8
 replace hAr := Hz.mk (hAr.out.gr g8.out)
 have G1 := G
 replace G := G.trans g8.out
 have hsr3 := Hz.mk (hsr2.out W2 G)
 have hthf := Hz.mk (At.there hAf.out 3 n (by rw [Fr.len]; omega))
 have hA9 := Hz.mk (at_ent A hAf.out hn)
 have hkf : w.heap.size ≤ kf := by rw [← hk9]; exact G1.below.size
 have hkfr : kr ≠ kf := by omega
 have G3 := Hz.mk (Gr.setCells G kf hkf ((List.range n).map fun j => Value.int .u64 (A j)) 3)
 have hAr3 := Hz.mk (At.other hAr.out hkfr 3 ((List.range n).map fun j => Value.int .u64 (A j)))
 clear hA8 g8 hrg c0 hAg hk9 G1
 go_upto_region 3 with fail
 refine wp_region_lit ?_
 iterate 3 (refine wpList_plain rfl (fun K hK => ?_); go_simp; with_reducible refine hK _ _ ?_; clear hK K; (try simp only [xap]))
 refine wpList_plain rfl (fun K hK => ?_)
 refine wp_copy_z _ _ rfl kf 3 15 15 (by rfl) sa n c (by rfl) hn A hsr3.out hthf.out ?_
 with_reducible refine hK _ _ ?_
 clear hK K
 try simp only [xap]
 clear hAf hAr hsr3 hthf G hsr2
 generalize World.setCells _ _ _ _ = W3 at *
 have hAf := hA9
 have hth2 := Hz.mk (At.there hAr3.out 0 18 (by decide))
 have hA10 := Hz.mk (At.setAll hAr3.out (Fr.vals ⟨gate, g.e, entR g n A⟩) (by rw [Fr.len]; rfl))
 have G4 := Hz.mk (Gr.setCells G3.out kr (by omega) (Fr.vals ⟨gate, g.e, entR g n A⟩) 0)
 go_upto_region 4 with fail
 refine wp_region_lit ?_
 refine wpList_plain rfl (fun K hK => ?_)
 refine wp_load_mid _ _ rfl _ 0 rfl (Fr.vals ⟨gate, g.e, entR g n A⟩) _ hAf.out.range Tryz.underlying74 rfl (by rw [Fr.len]; kernel_rfl) (hK _ _ ?_)
 clear hK K
 try simp only [xap]
 refine wpList_plain rfl (fun K hK => ?_)
 refine wp_store_mid _ _ _ rfl _ _ (List.toArray (Fr.vals ⟨gate, g.e, entR g n A⟩)) rfl rfl (show World.there _ _ _ _ by simpa [Fr.len] using hth2.out) (by rw [List.size_toArray, Fr.len]; kernel_rfl) (Fr.one _) (hK _ _ ?_)
 clear hK K
 try simp only [Act.put]
 generalize World.setCells _ _ _ _ = W4 at *
 have hrun := Hz.mk (run_loadVar_mid (P := Tryz.prog) W4 kr 0 74 (Fr.vals ⟨gate, g.e, entR g n A⟩) _ hA10.out.range Tryz.underlying74 rfl (by rw [Fr.len]; kernel_rfl))
 go_wp2_with fail
 refine bodyPost_ret (v := .agg (List.toArray (Fr.vals ⟨gate, g.e, entR g n A⟩))) ?_ rfl ⟨rfl, G4.out⟩
 exact results_rowY Tryz.results32 _ _ rfl hrun.out
end Z
end Go.Proofs.YthfphgjjieddjaaGreat


namespace Go.Proofs.YthfphgjjieddjaaGreat
set_option maxRecDepth 100000
set_option maxHeartbeats 40000000
namespace Z
open Go.RowKit
open T (Sep Ob Kp Mf FlIn)

theorem touch_bad (B : Nat) (W : World) (a : Nat) (P : Pr) (s : Fm) (l : List Ob) (st : Bool) (ad n : Int) (h : MIn B W a P s l) (hn : 1 ≤ n ∧ n ≤ 16) (hq : 65536 - n < ad) :
   Calls Tryz.prog 123 #[.pointer (some ⟨a, 0, none⟩), .bool st, .int .u64 ad, .int .u64 n] W fun x w' => x = .returned (.bool false) ∧ MIn B w' a P { s with e := 7, v := 0, f := 5 } l ∧ Below B W w' := by
 have hf := Hz.mk (h.onBox (s' := { s with e := 7, v := 0, f := 5 }) ⟨rfl, rfl, rfl, rfl, rfl⟩ (fun q hb => fail_any a _ 5 W hb))
 have e1 : IntKind.u64.wrap (65536 - n) = 65536 - n := by simp [IntKind.wrap, IntKind.bits, IntKind.signed]; omega
 replace h := Hz.mk h
 replace hn := Hz.mk hn
 go_enter Tryz.func123, Tryz.ntmps123
 go_wp2_with fail
 refine hf.out.mono ?_
 rintro r V ⟨rfl, h1, h2⟩
 replace h1 := Hz.mk h1
 go_wp2_with fail
 go_ret
 exact ⟨rfl, h1.out, h2⟩
theorem touch_ok (B : Nat) (W : World) (a : Nat) (P : Pr) (s : Fm) (l : List Ob) (st : Bool) (ad n : Int) (h : MIn B W a P s l) (hn : 1 ≤ n ∧ n ≤ 16) (hq : ad ≤ 65536 - n) (hl : s.tc.length ≤ 1000000) :
   Calls Tryz.prog 123 #[.pointer (some ⟨a, 0, none⟩), .bool st, .int .u64 ad, .int .u64 n] W fun x w' => x = .returned (.bool true) ∧ MIn B w' a P { s with tc := s.tc ++ [⟨st, ad, n⟩] } l ∧ Below B W w' := by
 have hq2 : ¬ 65536 - n < ad := by omega
 have e1 : IntKind.u64.wrap (65536 - n) = 65536 - n := by simp [IntKind.wrap, IntKind.bits, IntKind.signed]; omega
 obtain ⟨⟨q, h1⟩, le⟩ := h
 have hb := h1.ins (bxOb a (bxOf P s q)) (by simp [obs])
 have hO : W.ownsRow B 56 3 q.tv s.tc.length (s.tc.flatMap Tc.vals) := h1.ins (tcOb B q.tv s.tc) (by simp [obs])
 obtain ⟨ta, tk, etv⟩ := own_slZ hO
 have c25 : W.cell? ⟨a, 25, none⟩ = some (.slice ta s.tc.length tk) := by rw [← etv]; exact hb.at_ 25 (by omega)
 have hfr : ∀ V, Below W.heap.size W V → ∀ {g : Nat}, V.frozen? ⟨a, 25, none⟩ = false := fun V k _ => (T.frozen_of_block (k.block a hb.lt) 25).trans (hb.fr 25)
 have hlt := hb.lt
 have hap : Hz (∀ V W2 g cap, Gr W V → W2.ownsRow B 56 3 (.slice (some ⟨g, 0, none⟩) (s.tc.length + 1) cap) (s.tc.length + 1) (s.tc.flatMap Tc.vals ++ [Value.bool st, .int .u64 ad, .int .u64 n]) → V.grownBy W2 (Value.slice ta s.tc.length tk).ownBlock → ((Value.slice ta s.tc.length tk).ownBlock = some g ∨ g = V.heap.size) → (∃ u, W2.cell? ⟨a, 25, none⟩ = some u) ∧ W2.frozen? ⟨a, 25, none⟩ = false ∧ MIn B (W2.setCell ⟨a, 25, none⟩ (.slice (some ⟨g, 0, none⟩) (s.tc.length + 1) cap)) a P { s with tc := s.tc ++ [⟨st, ad, n⟩] } l ∧ Below B W (W2.setCell ⟨a, 25, none⟩ (.slice (some ⟨g, 0, none⟩) (s.tc.length + 1) cap))) := Hz.mk (fun V W2 g cap g1 k1 k2 k3 => by
   rw [← etv] at k2 k3
   have r := MIn.app_tc ⟨st, ad, n⟩ (h1.gr g1.below) (Nat.le_trans le g1.below.size) k1 k2 k3
   have hbV := (h1.gr g1.below).ins (bxOb a (bxOf P s q)) (by simp [obs])
   have hd : q.tv.ownBlock ≠ some a := fun e => by
     have := (List.pairwise_cons.1 h1.dis).1 (tcOb B q.tv s.tc) (by simp) a rfl
     exact this e
   have hb2 := Bx.keep hbV (kp_grown k2) hd
   exact ⟨⟨_, hb2.at_ 25 (by omega)⟩, hb2.fr 25, r.1, (g1.below.mono le).trans r.2⟩)
 have hO2 : Hz (∀ V, Gr W V → V.ownsRow B 56 3 (.slice ta s.tc.length tk) s.tc.length (s.tc.flatMap Tc.vals)) := Hz.mk (fun V g => by rw [← etv]; exact own_keep hO (Kp.of_below (S := fun _ => False) g.below) (fun _ _ r => r))
 clear hfr etv hO hb h1
 replace hn := Hz.mk hn
 generalize s.tc.flatMap Tc.vals = xs at *
 go_enter Tryz.func123, Tryz.ntmps123
 go_upto_region 4 with fail
 refine wp_region_lit ?_
 iterate 10 (refine wpList_plain rfl (fun K hK => ?_); go_simp; with_reducible refine hK _ _ ?_; clear hK K; (try simp only [xap]))
 have hX := At.new W #[Value.bool st, .int .u64 ad, .int .u64 n] 56
 have gX : Gr W (W.alloc (.cells #[Value.bool st, .int .u64 ad, .int .u64 n] 56)) := (Gr.refl W).alloc _
 generalize W.alloc (.cells #[Value.bool st, .int .u64 ad, .int .u64 n] 56) = V at *
 generalize W.heap.size = kX at *
 refine wpList_plain rfl (fun K hK => ?_)
 refine wp_append_z _ _ 53 56 (.agg #[.bool false, .int .u64 0, .int .u64 0]) 3 24 rfl Tryz.underlying53 (by kernel_rfl) (by kernel_rfl) (by decide) (by decide) B (.slice ta s.tc.length tk) s.tc.length xs [Value.bool st, .int .u64 ad, .int .u64 n] (by rfl) (hO2.out V gX) kX (by rfl) hX rfl (by simp [Value.oneCell']) hl (Nat.le_trans le (Nat.le_of_lt hX.1)) ?_
 intro g cap W2 k1 k2 k3
 obtain ⟨⟨u, cu⟩, fu, hM, hBe⟩ := hap.out V W2 g cap gX k1 k2 k3
 replace hM := Hz.mk hM
 clear hap hO2 k1 k2 k3
 have hlt2 := World.block_lt_of_cell? W2 _ cu
 with_reducible refine hK _ _ ?_
 clear hK K
 try simp only [xap]
 iterate 2 (refine wpList_plain rfl (fun K hK => ?_); go_simp; with_reducible refine hK _ _ ?_; clear hK K; (try simp only [xap]))
 refine wpList_plain rfl (fun K hK => ?_)
 go_simp
 with_reducible refine hK _ _ ?_
 clear hK K
 try simp only [Act.put]
 go_wp2_with fail
 go_ret
 exact ⟨rfl, hM.out, hBe⟩
end Z
end Go.Proofs.YthfphgjjieddjaaGreat


namespace Go.Proofs.YthfphgjjieddjaaGreat
namespace Z
open Go.RowKit
open T (Sep Ob Kp Mf FlIn boxOb)

theorem sep_perm {B : Nat} {W : World} {l l' : List Ob} (h : Sep B W l) (p : l.Perm l') : Sep B W l' :=
 ⟨fun o ho => h.ins o (p.mem_iff.2 ho), (List.Perm.pairwise_iff (fun q k hb ha => q k ha hb) p).1 h.dis, fun o ho => h.ge o (p.mem_iff.2 ho)⟩
theorem sep_tail {B : Nat} {W : World} {o : Ob} {l : List Ob} (h : Sep B W (o :: l)) : Sep B W l :=
 ⟨fun p hp => h.ins p (List.mem_cons_of_mem _ hp), (List.pairwise_cons.1 h.dis).2, fun p hp => h.ge p (List.mem_cons_of_mem _ hp)⟩
section
variable {B : Nat} {W W' : World} {a : Nat} {P : Pr} {s : Fm} {l : List Ob}
theorem MIn.add (h : MIn B W a P s l) (o : Ob) (hi : o.In W') (hn : ∀ k, o.S k → W.heap.size ≤ k) (hb : Below W.heap.size W W') : MIn B W' a P s (o :: l) := by
 obtain ⟨⟨q, h1⟩, le⟩ := h
 exact ⟨⟨q, sep_perm (h1.add o hi hn hb le) List.perm_middle.symm⟩, Nat.le_trans le hb.size⟩
theorem MIn.drop {o : Ob} (h : MIn B W a P s (o :: l)) : MIn B W a P s l := by
 obtain ⟨⟨q, h1⟩, le⟩ := h
 exact ⟨⟨q, sep_tail (sep_perm h1 List.perm_middle)⟩, le⟩
theorem MIn.new (h : MIn B W a P s l) (cs : Array Value) (t : TypeId) : MIn B (W.alloc (.cells cs t)) a P s (boxOb W.heap.size cs :: l) ∧ Below B W (W.alloc (.cells cs t)) :=
 ⟨h.add (boxOb W.heap.size cs) (At.new W cs t) (fun k q => by have : k = W.heap.size := q; omega) ((Below.refl _ W).alloc (Nat.le_refl _) _), ((Below.refl _ W).alloc (Nat.le_refl _) _).mono h.le⟩
theorem MIn.side {o o' : Ob} (h : MIn B W a P s (o :: l)) (hi : o'.In W') (hk : Kp o.S W W') (hn : ∀ k, o'.S k → o.S k ∨ W.heap.size ≤ k) : MIn B W' a P s (o' :: l) ∧ Below B W W' := by
 obtain ⟨⟨q, h1⟩, le⟩ := h
 exact ⟨⟨⟨q, sep_change (l1 := obs B a P s q) (o := o) (o' := o') (l2 := l) h1 hi hk hn le⟩, Nat.le_trans le hk.size⟩, sep_below (l1 := obs B a P s q) (o := o) (l2 := l) h1 hk le⟩
end
end Z
end Go.Proofs.YthfphgjjieddjaaGreat


namespace Go.Proofs.YthfphgjjieddjaaGreat
namespace Z
open Go.RowKit
open T (Sep Ob Kp Mf FlIn boxOb)

theorem Bx.hand {w : World} {a : Nat} {x : Fx} (h : Bx w a x) : w.rangeAt a 4 (Fr.vals ⟨x.g, x.p, x.r⟩) := fun j v q => by
 have hj : j < 18 := by have := (List.getElem?_eq_some_iff.1 q).1; rwa [Fr.len] at this
 have hc := h.at_ (4 + j) (by omega)
 rw [hc, ← q]
 by_cases h2 : j < 2
 · match j, h2 with
   | 0, _ => rfl
   | 1, _ => rfl
 · rw [show 4 + j = 6 + (j - 2) by omega, Fx.reg x (j - 2) (by omega), show j = 2 + (j - 2) by omega, Fr.reg _ (j - 2) (by omega), show 2 + (j - 2) - 2 = j - 2 by omega]
def Fx.hand (x : Fx) (f : Fr) : Fx := { x with g := f.g, p := f.p, r := f.r }
theorem Bx.there4 {w : World} {a : Nat} {x : Fx} (h : Bx w a x) : w.there a 4 18 := fun j hj => ⟨by rw [h.at_ (4 + j) (by omega)]; rfl, h.fr _⟩
theorem Bx.setHand {w : World} {a : Nat} {x : Fx} (h : Bx w a x) (f : Fr) : Bx (w.setCells a 4 f.vals) a (x.hand f) := by
 have hin : ∀ j (hj : j < f.vals.length), (w.setCells a 4 f.vals).cell? ⟨a, 4 + j, none⟩ = some f.vals[j] := World.cell?_setCells_in a f.vals 4 w (fun j hj => (h.there4 j (by rwa [Fr.len] at hj)).1)
 have hout : ∀ j, j < 4 ∨ 22 ≤ j → (w.setCells a 4 f.vals).cell? ⟨a, j, none⟩ = w.cell? ⟨a, j, none⟩ := fun j hj => World.cell?_setCells_out a f.vals 4 w ⟨a, j, none⟩ (fun _ _ => by rw [Fr.len]; omega)
 have ho : ∀ j, j < 29 → (j < 4 ∨ 22 ≤ j) → (x.hand f).at j = x.at j → (w.setCells a 4 f.vals).cell? ⟨a, j, none⟩ = some ((x.hand f).at j) := fun j h1 h2 h3 => by rw [hout j h2, h3]; exact h.at_ j h1
 refine ⟨by rw [setCells_size]; exact h.lt, fx_cases (P := fun j => (w.setCells a 4 f.vals).cell? ⟨a, j, none⟩ = some ((x.hand f).at j)) (ho 0 (by omega) (by omega) rfl) (ho 1 (by omega) (by omega) rfl) (ho 2 (by omega) (by omega) rfl) (ho 3 (by omega) (by omega) rfl) ?_ ?_ (fun i hi => ?_) (ho 22 (by omega) (by omega) rfl) (ho 23 (by omega) (by omega) rfl) (ho 24 (by omega) (by omega) rfl) (ho 25 (by omega) (by omega) rfl) (ho 26 (by omega) (by omega) rfl) (ho 27 (by omega) (by omega) rfl) (ho 28 (by omega) (by omega) rfl), fun j => by rw [World.frozen?_setCells]; exact h.fr j⟩
 · exact hin 0 (by rw [Fr.len]; omega)
 · exact hin 1 (by rw [Fr.len]; omega)
 · have := hin (2 + i) (by rw [Fr.len]; omega)
   rw [show 4 + (2 + i) = 6 + i by omega] at this
   rw [this, Fx.reg _ i hi]
   have e := Fr.reg f i hi
   rw [List.getElem?_eq_getElem (by rw [Fr.len]; omega)] at e
   exact e
theorem build_frs (f : Fr) (W : World) : (Instr.buildSlice 77 1 #[(0, .agg (Fr.vals f).toArray)]).run Tryz.prog W = .ok (.slice (some ⟨W.heap.size, 0, none⟩) 1 1) (W.alloc (.cells (Fr.vals f).toArray 74)) := by kernel_rfl
theorem wp_build_frs {o : Oper} {a : Act} {K : Act → World → Prop} {Q : Exit → Act → World → Prop} {w : World} (x : Operand) (ho : o.op = .buildSlice 77 1 #[(0, x)]) (f : Fr) (hx : a.eval x = .agg (Fr.vals f).toArray)
   (h : K (a.put o.dst (.slice (some ⟨w.heap.size, 0, none⟩) 1 1)) (w.alloc (.cells (Fr.vals f).toArray 74))) : o.wp Tryz.prog a w K Q := by
 unfold Oper.wp execOp
 simp only [ho, List.map_toArray, List.map_cons, List.map_nil, hx, build_frs, Sem.run_bind, Sem.run_pure, Result.andThen_ok]
 exact h
theorem own_pop {w : World} {lo e k n : Nat} {v : Value} {xs ys : List Value} {a : Option Addr} {c : Nat} (h : w.ownsRow lo e k v (n + 1) xs) (hv : v = .slice a (n + 1) c) (hy : ys = xs.take (n * k)) : w.ownsRow lo e k (.slice a n c) n ys := by
 subst hv
 rcases h.2 with ⟨_, h9⟩ | ⟨g, cap, cur, e1, hb, hg, hc1, hc2, hc3, hc4⟩
 · omega
 · injection e1 with e1 e2 e3
   subst e1 e3
   have hx := h.1
   have hle : n * k ≤ (n + 1) * k := Nat.mul_le_mul_right k (by omega)
   refine ⟨by rw [hy, List.length_take, hx]; omega, .inr ⟨g, c, cur, rfl, hb, hg, by omega, hc2, hc3, ?_⟩⟩
   rw [hy, ← hc4, List.take_take, Nat.min_eq_left hle]
section
variable {B : Nat} {W : World} {a : Nat} {P : Pr} {s : Fm} {l : List Ob}
theorem kp_sets4 (w : World) (b : Nat) (vs : List Value) (o : Nat) : Kp (fun k => k = b) w (w.setCells b o vs) := by
 induction vs generalizing w o with
 | nil => exact Kp.refl _ w
 | cons v r ih => exact (Kp.set (S := fun k => k = b) w ⟨b, o, none⟩ v rfl).trans (ih (w.setCell ⟨b, o, none⟩ v) (o + 1)) (fun _ q => .inl q)
theorem MIn.hand (h : MIn B W a P s l) (f : Fr) : MIn B (W.setCells a 4 f.vals) a P { s with g := f.g, p := f.p, r := f.r } l ∧ Below B W (W.setCells a 4 f.vals) :=
 h.box (s' := { s with g := f.g, p := f.p, r := f.r }) ⟨rfl, rfl, rfl, rfl, rfl⟩ (fun _ hb => hb.setHand f) (kp_sets4 W a f.vals 4)
theorem MIn.there4 (h : MIn B W a P s l) : W.there a 4 18 := by
 obtain ⟨q, hb⟩ := h.bx
 exact hb.there4
theorem MIn.handAt (h : MIn B W a P s l) : W.rangeAt a 4 (Fr.vals ⟨s.g, s.p, s.r⟩) := by
 obtain ⟨q, hb⟩ := h.bx
 exact hb.hand
theorem frs_len (L : List Fr) : (L.flatMap Fr.vals).length = L.length * 18 := flat_len Fr.len L
theorem MIn.top (h : MIn B W a P s l) (L : List Fr) (t : Fr) (hs : s.st = L ++ [t]) : ∃ g c, W.cell? ⟨a, 22, none⟩ = some (.slice (some ⟨g, 0, none⟩) (L.length + 1) c) ∧ L.length + 1 ≤ c ∧ g < W.heap.size ∧ W.frozen? ⟨a, 22, none⟩ = false ∧ W.rangeAt g (L.length * 18) t.vals ∧
   (MIn B (W.setCell ⟨a, 22, none⟩ (.slice (some ⟨g, 0, none⟩) L.length c)) a P { s with st := L } l ∧ Below B W (W.setCell ⟨a, 22, none⟩ (.slice (some ⟨g, 0, none⟩) L.length c))) := by
 obtain ⟨⟨q, h1⟩, le⟩ := h
 have hb := h1.ins (bxOb a (bxOf P s q)) (by simp [obs])
 have hO : W.ownsRow B 74 18 q.sv s.st.length (s.st.flatMap Fr.vals) := h1.ins (stOb B q.sv s.st) (by simp [obs])
 have hlt := hO.lt
 rw [hs] at hO
 rw [List.length_append] at hO
 obtain ⟨ta, tk, etv⟩ := own_slZ hO
 have hpop := own_pop (n := L.length) (ys := L.flatMap Fr.vals) hO etv (by rw [List.flatMap_append, List.take_append_of_le_length (by rw [frs_len]; exact Nat.le_refl _), List.take_of_length_le (by rw [frs_len]; exact Nat.le_refl _)])
 rcases hO.2 with ⟨_, h9⟩ | ⟨g, cap, cur, e1, hbb, hg, hc1, hc2, hc3, hc4⟩
 · simp at h9
 · rw [etv] at e1
   injection e1 with e1 e2 e3
   subst e1 e3
   have hgl : g < W.heap.size := (hlt g (by rw [etv]; rfl)).2
   refine ⟨g, tk, by have := hb.at_ 22 (by omega); rw [show (bxOf P s q).at 22 = q.sv from rfl, etv] at this; exact this, hc1, hgl, hb.fr 22, fun j v qj => ?_, ?_⟩
   · have hj : j < 18 := by have := (List.getElem?_eq_some_iff.1 qj).1; rwa [Fr.len] at this
     have hf := flat_at' (f := Fr.vals) Fr.len (L ++ [t]) L.length (by simp) j hj
     rw [List.getElem_append_right (by omega)] at hf
     simp only [Nat.sub_self, List.getElem_cons_zero] at hf
     rw [qj, ← hc4, List.getElem?_take_of_lt (by simp; omega)] at hf
     have : W.cell? ⟨g, L.length * 18 + j, none⟩ = cur[L.length * 18 + j]? := by simp [World.cell?, hg]
     rw [this, ← hf]
     simp
   · have h2 := sep_change (W' := W) (l1 := [bxOb a (bxOf P s q), flOb q.F q.mp s.m]) (o := stOb B q.sv s.st) (o' := stOb B (.slice (some ⟨g, 0, none⟩) L.length tk) L) (l2 := inOb q.iv s.inp :: ouOb B q.ov_ s.out :: tcOb B q.tv s.tc :: pgOb q.SP q.cv q.gv P :: l) h1 hpop (Kp.refl _ W) (fun k r => .inl (by
       show q.sv.ownBlock = some k
       rw [etv]
       exact r)) le
     obtain ⟨h3, b3⟩ := sep_box (bxOf P s q) (bxOf P { s with st := L } { q with sv := .slice (some ⟨g, 0, none⟩) L.length tk }) h2 (.slice (some ⟨g, 0, none⟩) L.length tk) 22 (fun hb => hb.sv _) le
     exact ⟨⟨⟨{ q with sv := .slice (some ⟨g, 0, none⟩) L.length tk }, h3⟩, Nat.le_trans le b3.size⟩, b3⟩
end
end Z
end Go.Proofs.YthfphgjjieddjaaGreat


namespace Go.Proofs.YthfphgjjieddjaaGreat
set_option maxRecDepth 100000
set_option maxHeartbeats 40000000
namespace Z
open Go.RowKit
open T (Sep Ob Kp Mf FlIn boxOb)

theorem handed_any (a n : Nat) (w : World) (hn : n ≤ 15) : Calls Tryz.prog 116 #[.pointer (some ⟨a, 0, none⟩), .int .i64 n] w fun x w' => x = .returned (.slice (some ⟨a, 7, none⟩) n 15) ∧ w' = w := by
 have h1 : (n : Int) ≤ 15 := by omega
 have h2 : (1 : Int) ≤ 1 + (n : Int) := by omega
 have h3 : 1 + (n : Int) ≤ 16 := by omega
 have h4 : (1 + (n : Int)).toNat - 1 = n := by omega
 go_enter Tryz.func116, Tryz.ntmps116
 go_wp2_with fail
 go_ret
 exact ⟨rfl, rfl⟩
theorem first_none (a : Option Addr) (c : Nat) (w : World) : Calls Tryz.prog 117 #[.slice a 0 c] w fun x w' => x = .returned (.int .u64 0) ∧ w' = w := by
 go_enter Tryz.func117, Tryz.ntmps117
 go_wp2_with fail
 go_ret
 exact ⟨rfl, rfl⟩
theorem first_some (b off n c : Nat) (v : Int) (w : World) (h : w.cell? ⟨b, off, none⟩ = some (.int .u64 v)) (hn : n ≤ 1000) : Calls Tryz.prog 117 #[.slice (some ⟨b, off, none⟩) (n + 1) c] w fun x w' => x = .returned (.int .u64 v) ∧ w' = w := by
 have h0 : ((n : Int) + 1 == 0) = false := by simpa using (by omega : ¬ (n : Int) + 1 = 0)
 go_enter Tryz.func117, Tryz.ntmps117
 go_wp2_with fail
 go_ret
 exact ⟨rfl, rfl⟩
end Z
end Go.Proofs.YthfphgjjieddjaaGreat
