import Derived.Test.YtiigpncfmakgjaaGreatDoorJ30
import Derived.Test.YtiigpncfmakgjaaGreatDoorJ29
import Derived.Deep.AppendLies
namespace Go.Proofs.YtiigpncfmakgjaaGreatDoor
namespace T
open Go.RowKit

end T
end Go.Proofs.YtiigpncfmakgjaaGreatDoor


namespace Go.Proofs.YtiigpncfmakgjaaGreatDoor
namespace T
open Go.RowKit

theorem Bx.setAt {w : World} {a : Nat} {row row' : List Value} (i : Nat) (v : Value) (h : Bx w a row) (hn : ∀ x, x ≠ i → row'[x]? = row[x]?) (hv : row'[i]? = some v) (hy : ∃ y, row[i]? = some y) : Bx (w.setCell ⟨a, i, none⟩ v) a row' := by
 refine ⟨by simpa using h.lt, fun o u q => ?_, fun o => by simpa using h.fr o⟩
 by_cases e : o = i
 · subst e
   obtain ⟨y, hy⟩ := hy
   rw [hv] at q
   injection q with q
   subst q
   exact css (h.at_ o y hy)
 · rw [cso (fun _ r => e r.symm)]
   rw [hn o e] at q
   exact h.at_ o u q
theorem mRow_tail {p0 p1 p2 : Value} {d : Int} {km : Nat} {f : Fm} {st inp out tou st' inp' out' tou' : Value} {o o' : Ed} (i : Nat) (h : ∀ y, y ≠ i → [st', inp', out', tou', Value.int .i64 o'.e, .int .u64 o'.v, .int .i64 o'.f][y]? = [st, inp, out, tou, Value.int .i64 o.e, .int .u64 o.v, .int .i64 o.f][y]?) : ∀ x, x ≠ 119 + i → (mRow p0 p1 p2 d km f st' inp' out' tou' o')[x]? = (mRow p0 p1 p2 d km f st inp out tou o)[x]? := by
 intro x hx
 rw [mRow_idx, mRow_idx]
 by_cases h1 : x < 7
 · rw [if_pos h1, if_pos h1]
 · rw [if_neg h1, if_neg h1]
   by_cases h2 : x < 119
   · rw [if_pos h2, if_pos h2]
   · rw [if_neg h2, if_neg h2]
     exact h (x - 119) (by omega)
theorem mRow_at {p0 p1 p2 : Value} {d : Int} {km : Nat} {f : Fm} {st inp out tou : Value} {o : Ed} (i : Nat) : (mRow p0 p1 p2 d km f st inp out tou o)[119 + i]? = [st, inp, out, tou, Value.int .i64 o.e, .int .u64 o.v, .int .i64 o.f][i]? := by
 rw [mRow_idx, if_neg (by omega), if_neg (by omega), Nat.add_sub_cancel_left]
theorem infoTouch : (Tryz.prog.info? 61).map (fun i => (i.zero, i.size, i.bytes)) = some (some (.agg #[.bool false, .int .u64 0, .int .u64 0]), 3, 24) := by kernel_rfl
end T
end Go.Proofs.YtiigpncfmakgjaaGreatDoor


namespace Go.Proofs.YtiigpncfmakgjaaGreatDoor
namespace C
open Go.RowKit
open T (Sep Ob Kp Mf TgIn boxOb Fm Tc Ed Vl Cp Bx tgOb mRow mRow_idx mRow_tail mRow_at updV flt accessF)

theorem addr_addZ (b off j : Nat) : (⟨b, off, none⟩ : Addr).add j = ⟨b, off + j, none⟩ := by by_cases h0 : j = 0 <;> simp [Addr.add, h0]
theorem wp_append_z {o : Oper} {a : Act} {K : Act → World → Prop} {Q : Exit → Act → World → Prop} {w : World} (s x : Operand) (t e : TypeId) (z : Value) (size bytes : Nat)
   (ho : o.op = .call { callee := .builtin .append, args := #[s, x], argTypes := #[t, t] }) (ht : Tryz.prog.underlying t = some (.slice e))
   (hi : (Tryz.prog.info? e).map (fun i => (i.zero, i.size, i.bytes)) = some (some z, size, bytes)) (hz : z.cells.size = size) (hsz : 0 < size) (hby : bytes ≤ 2048)
   (base : Nat) (v : Value) (n : Nat) (xs cs : List Value) (hs : a.eval s = v) (hown : w.ownsRow base e size v n xs) (X : Nat) (hx : a.eval x = .slice (some ⟨X, 0, none⟩) 1 1) (hX : At w X cs.toArray) (hc : cs.length = size) (h1 : ∀ u ∈ cs, u.oneCell' = true)
   (hlen : n ≤ 1000000) (hbase : base ≤ w.heap.size)
   (h : ∀ g cap w', w'.ownsRow base e size (.slice (some ⟨g, 0, none⟩) (n + 1) cap) (n + 1) (xs ++ cs) → w.grownBy w' v.ownBlock → (v.ownBlock = some g ∨ g = w.heap.size) → K (a.put o.dst (.slice (some ⟨g, 0, none⟩) (n + 1) cap)) w') : o.wp Tryz.prog a w K Q := by
 obtain ⟨i0, hi0, hz0, hz1, hz2⟩ := T.info_parts' hi
 have hb : (n + 1) * bytes ≤ 140737488355328 := Nat.le_trans (Nat.mul_le_mul_left _ hby) (by omega)
 have hn : ∀ j u, cs[j]? = some u → w.cell? ((⟨X, 0, none⟩ : Addr).add j) = some u := by
   intro j u hj
   rw [addr_addZ, Nat.zero_add, hX.2.1]
   simpa using hj
 refine wp_append_lies _ s x t ho base e i0 z size bytes ht hi0 hz0 hz1 hz2 hz hsz v n xs hs hown ⟨X, 0, none⟩ 1 1 cs hx (by omega) hn h1 (by decide) (by unfold maxLen; omega) hb hbase _ rfl ?_
 intro g cap w' k1 k2 k3 _
 exact h g cap w' k1 k2 k3
theorem kp_grown {w w1 : World} {row : Option Nat} (h : w.grownBy w1 row) : Kp (fun k => row = some k) w w1 := ⟨h.os, h.tape, h.output, h.size, fun k hk hn => h.block k hk (fun e => hn e.symm)⟩
theorem own_slZ {w : World} {lo e s n : Nat} {v : Value} {xs : List Value} (h : w.ownsRow lo e s v n xs) : ∃ a c, v = .slice a n c := by
 rcases h.2 with ⟨rfl, rfl⟩ | ⟨g, cap, cur, rfl, _⟩
 · exact ⟨none, 0, rfl⟩
 · exact ⟨_, _, rfl⟩
section
variable {B : Nat} {W W2 : World} {a : Nat} {P : PImg} {s : Ms} {l : List Ob} {q : Pt}
theorem sep_box (x x' : List Value) {l2 : List Ob} (h : Sep B W (bx_ a x :: l2)) (v : Value) (j : Nat) (hb : Bx W a x → Bx (W.setCell ⟨a, j, none⟩ v) a x') (hB : B ≤ W.heap.size) : Sep B (W.setCell ⟨a, j, none⟩ v) (bx_ a x' :: l2) ∧ Below B W (W.setCell ⟨a, j, none⟩ v) := by
 have hk : Kp (fun k => k = a) W (W.setCell ⟨a, j, none⟩ v) := Kp.set (S := fun k => k = a) W ⟨a, j, none⟩ v rfl
 exact ⟨sep_change (l1 := []) (o := bx_ a x) (o' := bx_ a x') h (hb (h.ins (bx_ a x) (by simp))) hk (fun _ r => .inl r) hB, sep_below (l1 := []) (o := bx_ a x) h hk hB⟩
theorem MIn.app_tou (t : Tc) (h : Sep B W (obs B a P s q ++ l)) (hpg : PgOk P q) (le : B ≤ W.heap.size) {g cap : Nat} (hown : W2.ownsRow B 61 3 (.slice (some ⟨g, 0, none⟩) (s.tou.length + 1) cap) (s.tou.length + 1) (s.tou.flatMap Tc.row ++ t.row)) (gr : W.grownBy W2 q.tv.ownBlock) (hg : q.tv.ownBlock = some g ∨ g = W.heap.size) :
   Bx W2 a (rowOf P s q) ∧ (∀ o ∈ l, o.In W2) ∧ MIn B (W2.setCell ⟨a, 122, none⟩ (.slice (some ⟨g, 0, none⟩) (s.tou.length + 1) cap)) a P { s with tou := s.tou ++ [t] } l ∧ Below B W (W2.setCell ⟨a, 122, none⟩ (.slice (some ⟨g, 0, none⟩) (s.tou.length + 1) cap)) := by
 have hk := kp_grown gr
 have h1 := sep_change (l1 := [bx_ a (rowOf P s q), tgOb q.SM q.km s.b s.t, stOb B q.sv s.st, inOb q.iv s.inp, ouOb B q.ov_ s.out]) (o := tcOb B q.tv s.tou) (o' := tcOb B (.slice (some ⟨g, 0, none⟩) (s.tou.length + 1) cap) (s.tou ++ [t])) (l2 := snapOb q.lo q.W0 :: l) h (by
   show W2.ownsRow B _ 3 _ (s.tou ++ [t]).length ((s.tou ++ [t]).flatMap Tc.row)
   rw [List.length_append, List.flatMap_append]
   simpa using hown) hk (fun k r => by
   have e : g = k := by simpa [tcOb, rowOb, Value.ownBlock] using r
   rcases hg with u | u
   · exact .inl (e ▸ u)
   · exact .inr (by omega)) le
 have b1 := sep_below (l1 := [bx_ a (rowOf P s q), tgOb q.SM q.km s.b s.t, stOb B q.sv s.st, inOb q.iv s.inp, ouOb B q.ov_ s.out]) (o := tcOb B q.tv s.tou) (l2 := snapOb q.lo q.W0 :: l) h hk le
 obtain ⟨h2, b2⟩ := sep_box (rowOf P s q) (rowOf P { s with tou := s.tou ++ [t] } { q with tv := (.slice (some ⟨g, 0, none⟩) (s.tou.length + 1) cap) }) h1 (.slice (some ⟨g, 0, none⟩) (s.tou.length + 1) cap) 122 (fun hb => T.Bx.setAt 122 _ hb (mRow_tail 3 (fun y hy => by
     match y, hy with
     | 0, hy => first | rfl | exact absurd rfl hy
     | 1, hy => first | rfl | exact absurd rfl hy
     | 2, hy => first | rfl | exact absurd rfl hy
     | 3, hy => first | rfl | exact absurd rfl hy
     | 4, _ => rfl
     | 5, _ => rfl
     | 6, _ => rfl
     | _ + 7, _ => rfl)) (mRow_at 3) ⟨_, mRow_at 3⟩) (Nat.le_trans le b1.size)
 refine ⟨h1.ins (bx_ a (rowOf P s q)) (by simp), fun o ho => h1.ins o (by simp [ho]), ?_⟩
 exact ⟨⟨⟨{ q with tv := (.slice (some ⟨g, 0, none⟩) (s.tou.length + 1) cap) }, h2, hpg⟩, Nat.le_trans le (b1.trans b2).size⟩, b1.trans b2⟩
theorem MIn.app_out (t : Int) (h : Sep B W (obs B a P s q ++ l)) (hpg : PgOk P q) (le : B ≤ W.heap.size) {g cap : Nat} (hown : W2.ownsRow B 32 1 (.slice (some ⟨g, 0, none⟩) (s.out.length + 1) cap) (s.out.length + 1) (s.out.map u64I ++ [u64I t])) (gr : W.grownBy W2 q.ov_.ownBlock) (hg : q.ov_.ownBlock = some g ∨ g = W.heap.size) :
   Bx W2 a (rowOf P s q) ∧ (∀ o ∈ l, o.In W2) ∧ MIn B (W2.setCell ⟨a, 121, none⟩ (.slice (some ⟨g, 0, none⟩) (s.out.length + 1) cap)) a P { s with out := s.out ++ [t] } l ∧ Below B W (W2.setCell ⟨a, 121, none⟩ (.slice (some ⟨g, 0, none⟩) (s.out.length + 1) cap)) := by
 have hk := kp_grown gr
 have h1 := sep_change (l1 := [bx_ a (rowOf P s q), tgOb q.SM q.km s.b s.t, stOb B q.sv s.st, inOb q.iv s.inp]) (o := ouOb B q.ov_ s.out) (o' := ouOb B (.slice (some ⟨g, 0, none⟩) (s.out.length + 1) cap) (s.out ++ [t])) (l2 := tcOb B q.tv s.tou :: snapOb q.lo q.W0 :: l) h (by
   show W2.ownsRow B _ 1 _ (s.out ++ [t]).length ((s.out ++ [t]).map u64I)
   rw [List.length_append, List.map_append]
   simpa using hown) hk (fun k r => by
   have e : g = k := by simpa [ouOb, rowOb, Value.ownBlock] using r
   rcases hg with u | u
   · exact .inl (e ▸ u)
   · exact .inr (by omega)) le
 have b1 := sep_below (l1 := [bx_ a (rowOf P s q), tgOb q.SM q.km s.b s.t, stOb B q.sv s.st, inOb q.iv s.inp]) (o := ouOb B q.ov_ s.out) (l2 := tcOb B q.tv s.tou :: snapOb q.lo q.W0 :: l) h hk le
 obtain ⟨h2, b2⟩ := sep_box (rowOf P s q) (rowOf P { s with out := s.out ++ [t] } { q with ov_ := (.slice (some ⟨g, 0, none⟩) (s.out.length + 1) cap) }) h1 (.slice (some ⟨g, 0, none⟩) (s.out.length + 1) cap) 121 (fun hb => T.Bx.setAt 121 _ hb (mRow_tail 2 (fun y hy => by
     match y, hy with
     | 0, hy => first | rfl | exact absurd rfl hy
     | 1, hy => first | rfl | exact absurd rfl hy
     | 2, hy => first | rfl | exact absurd rfl hy
     | 3, hy => first | rfl | exact absurd rfl hy
     | 4, _ => rfl
     | 5, _ => rfl
     | 6, _ => rfl
     | _ + 7, _ => rfl)) (mRow_at 2) ⟨_, mRow_at 2⟩) (Nat.le_trans le b1.size)
 refine ⟨h1.ins (bx_ a (rowOf P s q)) (by simp), fun o ho => h1.ins o (by simp [ho]), ?_⟩
 exact ⟨⟨⟨{ q with ov_ := (.slice (some ⟨g, 0, none⟩) (s.out.length + 1) cap) }, h2, hpg⟩, Nat.le_trans le (b1.trans b2).size⟩, b1.trans b2⟩
theorem MIn.app_st (t : Fm) (h : Sep B W (obs B a P s q ++ l)) (hpg : PgOk P q) (le : B ≤ W.heap.size) {g cap : Nat} (hown : W2.ownsRow B 75 114 (.slice (some ⟨g, 0, none⟩) (s.st.length + 1) cap) (s.st.length + 1) (s.st.flatMap Fm.row ++ t.row)) (gr : W.grownBy W2 q.sv.ownBlock) (hg : q.sv.ownBlock = some g ∨ g = W.heap.size) :
   Bx W2 a (rowOf P s q) ∧ (∀ o ∈ l, o.In W2) ∧ MIn B (W2.setCell ⟨a, 119, none⟩ (.slice (some ⟨g, 0, none⟩) (s.st.length + 1) cap)) a P { s with st := s.st ++ [t] } l ∧ Below B W (W2.setCell ⟨a, 119, none⟩ (.slice (some ⟨g, 0, none⟩) (s.st.length + 1) cap)) := by
 have hk := kp_grown gr
 have h1 := sep_change (l1 := [bx_ a (rowOf P s q), tgOb q.SM q.km s.b s.t]) (o := stOb B q.sv s.st) (o' := stOb B (.slice (some ⟨g, 0, none⟩) (s.st.length + 1) cap) (s.st ++ [t])) (l2 := inOb q.iv s.inp :: ouOb B q.ov_ s.out :: tcOb B q.tv s.tou :: snapOb q.lo q.W0 :: l) h (by
   show W2.ownsRow B _ 114 _ (s.st ++ [t]).length ((s.st ++ [t]).flatMap Fm.row)
   rw [List.length_append, List.flatMap_append]
   simpa using hown) hk (fun k r => by
   have e : g = k := by simpa [stOb, rowOb, Value.ownBlock] using r
   rcases hg with u | u
   · exact .inl (e ▸ u)
   · exact .inr (by omega)) le
 have b1 := sep_below (l1 := [bx_ a (rowOf P s q), tgOb q.SM q.km s.b s.t]) (o := stOb B q.sv s.st) (l2 := inOb q.iv s.inp :: ouOb B q.ov_ s.out :: tcOb B q.tv s.tou :: snapOb q.lo q.W0 :: l) h hk le
 obtain ⟨h2, b2⟩ := sep_box (rowOf P s q) (rowOf P { s with st := s.st ++ [t] } { q with sv := (.slice (some ⟨g, 0, none⟩) (s.st.length + 1) cap) }) h1 (.slice (some ⟨g, 0, none⟩) (s.st.length + 1) cap) 119 (fun hb => T.Bx.setAt 119 _ hb (mRow_tail 0 (fun y hy => by
     match y, hy with
     | 0, hy => first | rfl | exact absurd rfl hy
     | 1, hy => first | rfl | exact absurd rfl hy
     | 2, hy => first | rfl | exact absurd rfl hy
     | 3, hy => first | rfl | exact absurd rfl hy
     | 4, _ => rfl
     | 5, _ => rfl
     | 6, _ => rfl
     | _ + 7, _ => rfl)) (mRow_at 0) ⟨_, mRow_at 0⟩) (Nat.le_trans le b1.size)
 refine ⟨h1.ins (bx_ a (rowOf P s q)) (by simp), fun o ho => h1.ins o (by simp [ho]), ?_⟩
 exact ⟨⟨⟨{ q with sv := (.slice (some ⟨g, 0, none⟩) (s.st.length + 1) cap) }, h2, hpg⟩, Nat.le_trans le (b1.trans b2).size⟩, b1.trans b2⟩
end
end C
end Go.Proofs.YtiigpncfmakgjaaGreatDoor


namespace Go.Proofs.YtiigpncfmakgjaaGreatDoor
set_option maxRecDepth 100000
set_option maxHeartbeats 40000000
namespace C
open Go.RowKit
open T (Sep Ob Kp Mf TgIn boxOb Fm Tc Ed Vl Cp Bx tgOb mRow mRow_idx mRow_tail mRow_at updV flt accessF)

theorem note_any (B : Nat) (W : World) (a : Nat) (P : PImg) (s : Ms) (l : List Ob) (t : Tc) (h : MIn B W a P s l) (hl : s.tou.length ≤ 1000000) :
   Calls Tryz.prog 124 #[.pointer (some ⟨a, 0, none⟩), .bool t.store, .int .u64 t.addr, .int .u64 t.size] W fun x w' => x = .returned (.tuple #[]) ∧ MIn B w' a P { s with tou := s.tou ++ [t] } l ∧ Below B W w' := by
 obtain ⟨⟨q, h1, hpg⟩, le⟩ := h
 have hb : Bx W a (rowOf P s q) := h1.ins (bx_ a (rowOf P s q)) (by simp [obs])
 have hO : W.ownsRow B 61 3 q.tv s.tou.length (s.tou.flatMap Tc.row) := h1.ins (tcOb B q.tv s.tou) (by simp [obs])
 obtain ⟨ta, tk, etv⟩ := own_slZ hO
 have c122 : W.cell? ⟨a, 122, none⟩ = some (.slice ta s.tou.length tk) := by rw [← etv]; exact hb.at_ 122 _ (mRow_at 3)
 have hlt := hb.lt
 have hap : Hz (∀ V W2 g cap, Gr W V → W2.ownsRow B 61 3 (.slice (some ⟨g, 0, none⟩) (s.tou.length + 1) cap) (s.tou.length + 1) (s.tou.flatMap Tc.row ++ [Value.bool t.store, .int .u64 t.addr, .int .u64 t.size]) → V.grownBy W2 (Value.slice ta s.tou.length tk).ownBlock → ((Value.slice ta s.tou.length tk).ownBlock = some g ∨ g = V.heap.size) →
     (∃ u, W2.cell? ⟨a, 122, none⟩ = some u) ∧ W2.frozen? ⟨a, 122, none⟩ = false ∧ MIn B (W2.setCell ⟨a, 122, none⟩ (.slice (some ⟨g, 0, none⟩) (s.tou.length + 1) cap)) a P { s with tou := s.tou ++ [t] } l ∧ Below B W (W2.setCell ⟨a, 122, none⟩ (.slice (some ⟨g, 0, none⟩) (s.tou.length + 1) cap))) := Hz.mk (fun V W2 g cap g1 k1 k2 k3 => by
   rw [← etv] at k2 k3
   have r := MIn.app_tou t (h1.gr g1.below) hpg (Nat.le_trans le g1.below.size) k1 k2 k3
   exact ⟨⟨_, r.1.at_ 122 _ (mRow_at 3)⟩, r.1.fr 122, r.2.2.1, (g1.below.mono le).trans r.2.2.2⟩)
 have hO2 : Hz (∀ V, Gr W V → V.ownsRow B 61 3 (.slice ta s.tou.length tk) s.tou.length (s.tou.flatMap Tc.row)) := Hz.mk (fun V g => by rw [← etv]; exact own_keep hO (Kp.of_below (S := fun _ => False) g.below) (fun _ _ r => r))
 clear etv hO hb h1 hpg
 generalize s.tou.flatMap Tc.row = xs at *
 go_enter Tryz.func124, Tryz.ntmps124
 go_upto_region 0 with fail
 refine wp_region_lit ?_
 iterate 10 (refine wpList_plain rfl (fun K hK => ?_); go_simp; with_reducible refine hK _ _ ?_; clear hK K; (try simp only [xap]))
 refine wpList_plain rfl (fun K hK => ?_)
 refine wp_append_z (.tmp 12) (.tmp 17) 42 61 _ 3 24 rfl Tryz.underlying42 T.infoTouch rfl (by decide) (by decide) B (.slice ta s.tou.length tk) s.tou.length xs [Value.bool t.store, .int .u64 t.addr, .int .u64 t.size] rfl (hO2.out _ ((Gr.refl W).alloc _)) W.heap.size rfl (At.new W (List.toArray [Value.bool t.store, .int .u64 t.addr, .int .u64 t.size]) _) rfl (by simp [Value.oneCell']) hl (Nat.le_trans le ((Gr.refl W).alloc (.cells (List.toArray [Value.bool t.store, .int .u64 t.addr, .int .u64 t.size]) 61)).below.size) ?_
 intro g cap W2 k1 k2 k3
 obtain ⟨⟨u, cu⟩, fu, hM⟩ := hap.out _ W2 g cap ((Gr.refl W).alloc _) k1 k2 k3
 replace hM := Hz.mk hM
 clear k1 k2 k3
 with_reducible refine hK _ _ ?_
 clear hK K
 try simp only [xap]
 iterate 2 (refine wpList_plain rfl (fun K hK => ?_); go_simp; with_reducible refine hK _ _ ?_; clear hK K; (try simp only [xap]))
 refine wpList_plain rfl (fun K hK => ?_)
 go_simp
 with_reducible refine hK _ _ ?_
 clear hK K
 try simp only [Act.put]
 go_wp2_with fail
 go_end0
 exact ⟨rfl, hM.out⟩
end C
end Go.Proofs.YtiigpncfmakgjaaGreatDoor
