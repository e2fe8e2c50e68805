import Derived.Test.YtmedafcmfbhjkaaGreatP47
import Derived.Test.YtmedafcmfbhjkaaGreatZSnEq
import Derived.Test.YtmedafcmfbhjkaaGreatP41
namespace Go.Proofs.YtmedafcmfbhjkaaGreat
set_option maxRecDepth 100000
set_option maxHeartbeats 40000000
namespace Z
open Go.RowKit
open T (Sep Ob Kp Mf FlIn boxOb)

theorem ri_eql (i : Ri) (W : World) : (binOp .eql 52 (.agg i.vals.toArray) (.agg i.vals.toArray)).run Tryz.prog W = .ok (.bool true) W := by
 show (binOp .eql 52 (.agg #[.int .u8 i.op, .int .i64 i.a, .int .i64 i.b, .int .i64 i.c, .int .u64 i.i]) (.agg #[.int .u8 i.op, .int .i64 i.a, .int .i64 i.b, .int .i64 i.c, .int .u64 i.i])).run Tryz.prog W = _
 simp [go_sem]
theorem fe_in (dd : Nat) (g p d : Int) (r : Nat → Int) (W : World) : (Op.equalIn (dd + 6) 63 (.agg (snV g p d r).toArray) (.agg (snV g p d r).toArray)).run Tryz.prog W = .ok true W := by
 have ha := arr_in dd r W
 unfold snV
 rw [regs_lit] at ha ⊢
 simp [go_sem, ha]
theorem fe_eql (g : Rg) (W : World) : (binOp .eql 63 (.agg g.vals.toArray) (.agg g.vals.toArray)).run Tryz.prog W = .ok (.bool true) W := by
 rw [show g.vals = snV g.e g.a g.s g.r from rfl, run_eql_struct, fe_in 9994 g.e g.a g.s g.r W]
 rfl
theorem FrF.mono {w : World} {g n i j : Nat} {V : Nat → Value} (h : FrF w g n i V) (hj : i ≤ j) : FrF w g n j V := by
 obtain ⟨U, h1, h2⟩ := h
 exact ⟨U, h1, fun k hk => h2 k (by omega)⟩
theorem FrF.keep {S : Nat → Prop} {w w1 : World} {g n i : Nat} {V : Nat → Value} (h : FrF w g n i V) (q : Kp S w w1) (hn : ¬ S g) : FrF w1 g n i V := by
 obtain ⟨U, h1, h2⟩ := h
 exact ⟨U, h1.keep q hn, h2⟩
theorem FrF.sets {g n : Nat} {V : Nat → Value} (vs : List Value) : ∀ {w : World} {i : Nat} (_ : FrF w g n i V) (_ : i + vs.length ≤ n), FrF (w.setCells g i vs) g n (i + vs.length) V := by
 induction vs with
 | nil => intro w i h _; exact h
 | cons v r ih =>
   intro w i h hl
   rw [List.length_cons] at hl
   have := ih (h.set v (by omega)) (by omega)
   rw [List.length_cons, show i + (r.length + 1) = i + 1 + r.length by omega]
   exact this
theorem FrF.there {w : World} {g n i : Nat} {V : Nat → Value} (h : FrF w g n i V) (o k : Nat) (hk : o + k ≤ n) : w.there g o k := by
 obtain ⟨U, h1, _⟩ := h
 exact fun j hj => ⟨by rw [h1.at_ (o + j) (by omega)]; rfl, h1.fr _⟩
def cellF (A : Array Value) (m : Nat) : Value := A.getD m undef
theorem frf_at {w : World} {b : Nat} {A : Array Value} (h : At w b A) : FrF w b A.size 0 (cellF A) := ⟨_, ⟨h.1, fun j hj => by rw [h.2.1 j]; unfold cellF; simp [hj], h.2.2⟩, fun _ _ => rfl⟩
theorem frf_range {α : Type} {f : α → List Value} {k : Nat} (hf : ∀ x, (f x).length = k) {w : World} {b i : Nat} {L : List α} (h : FrF w b (rowV [] f L).toArray.size (i * k) (cellF (rowV [] f L).toArray)) (hi : i < L.length) : w.rangeAt b (i * k) (f L[i]) := fun j v q => by
 obtain ⟨U, h1, h2⟩ := h
 have hj : j < k := by have := (List.getElem?_eq_some_iff.1 q).1; rwa [hf] at this
 have hs : (rowV [] f L).toArray.size = L.length * k := by simp [row_len hf]
 have hr := row_at (pre := []) hf L i hi j hj
 have hlt : i * k + j < L.length * k := by
   have : (i + 1) * k ≤ L.length * k := Nat.mul_le_mul_right _ hi
   rw [Nat.add_mul] at this
   omega
 rw [h1.at_ (i * k + j) (by rw [hs]; exact hlt), h2 _ (by omega), cellF]
 rw [List.length_nil, Nat.zero_add] at hr
 rw [q] at hr
 simp [Array.getD_eq_getD_getElem?, hr]
theorem pad_size (L : List Ri) : (padA L).size = (L.length + 8) * 5 := by unfold padA; rw [List.size_toArray, row_len ri_len]; simp
theorem padG_size (L : List Rg) : (padG L).size = (L.length + 8) * 19 := by unfold padG; rw [List.size_toArray, row_len Rg.len]; simp
def elI (L : List Ri) (e : Nat) : Ri := (L ++ List.replicate 8 riZ).getD e riZ
def elG (L : List Rg) (e : Nat) : Rg := (L ++ List.replicate 8 rgZ).getD e rgZ
theorem elI_in (L : List Ri) (e : Nat) (h : e < L.length) : elI L e = L[e] := by unfold elI; simp [List.getD_eq_getElem?_getD, List.getElem?_append_left h, h]
theorem elI_out (L : List Ri) (e : Nat) (h : L.length ≤ e) : elI L e = riZ := by
 unfold elI
 rw [List.getD_eq_getElem?_getD, List.getElem?_append_right h, List.getElem?_replicate]
 split <;> rfl
theorem elG_in (L : List Rg) (e : Nat) (h : e < L.length) : elG L e = L[e] := by unfold elG; simp [List.getD_eq_getElem?_getD, List.getElem?_append_left h, h]
theorem elG_out (L : List Rg) (e : Nat) (h : L.length ≤ e) : elG L e = rgZ := by
 unfold elG
 rw [List.getD_eq_getElem?_getD, List.getElem?_append_right h, List.getElem?_replicate]
 split <;> rfl
theorem padA_range {w : World} {b e : Nat} {L : List Ri} (h : FrF w b ((L.length + 8) * 5) (e * 5) (cellF (padA L))) (he : e < L.length + 8) : w.rangeAt b (e * 5) (elI L e).vals := by
 have h2 : FrF w b (rowV [] Ri.vals (L ++ List.replicate 8 riZ)).toArray.size (e * 5) (cellF (rowV [] Ri.vals (L ++ List.replicate 8 riZ)).toArray) := by
   have := pad_size L
   unfold padA at this
   rw [this]
   exact h
 have hl : e < (L ++ List.replicate 8 riZ).length := by simp; omega
 have := frf_range ri_len h2 hl
 rw [show elI L e = (L ++ List.replicate 8 riZ)[e] by unfold elI; rw [List.getD_eq_getElem?_getD, List.getElem?_eq_getElem hl]; rfl]
 exact this
theorem padG_range {w : World} {b e : Nat} {L : List Rg} (h : FrF w b ((L.length + 8) * 19) (e * 19) (cellF (padG L))) (he : e < L.length + 8) : w.rangeAt b (e * 19) (elG L e).vals := by
 have h2 : FrF w b (rowV [] Rg.vals (L ++ List.replicate 8 rgZ)).toArray.size (e * 19) (cellF (rowV [] Rg.vals (L ++ List.replicate 8 rgZ)).toArray) := by
   have := padG_size L
   unfold padG at this
   rw [this]
   exact h
 have hl : e < (L ++ List.replicate 8 rgZ).length := by simp; omega
 have := frf_range Rg.len h2 hl
 rw [show elG L e = (L ++ List.replicate 8 rgZ)[e] by unfold elG; rw [List.getD_eq_getElem?_getD, List.getElem?_eq_getElem hl]; rfl]
 exact this
def LnS (kc kg : Nat) (K : Nat → Nat) (n : Nat) (k : Nat) : Prop := k = kc ∨ k = kg ∨ ∃ j, j < n ∧ k = K j
structure Bk (W1 wr : World) (kc kg : Nat) (K : Nat → Nat) (R : Rp) (i : Nat) : Prop where
 kp : Kp (LnS kc kg K R.code.length) W1 wr
 code : FrF wr kc (R.code.length + 8) i (rowF R.code K R.code.length)
 rows : ∀ j, i ≤ j → j < R.code.length → At wr (K j) (padA (R.code.getD j []))
 gates : At wr kg (padG R.gates)
theorem LnA.rp {lo hi : Nat} {W : World} {kc kg : Nat} {K : Nat → Nat} {rv : Value} {R : Rp} (h : LnA lo hi W kc kg K rv R) : RpIn W (some ⟨kc, 0, none⟩) (some ⟨kg, 0, none⟩) R := by
 refine ⟨fun k hk => ⟨kc, 0, some ⟨K k, 0, none⟩, R.code[k].length + 8, rfl, h.row.lt, ?_, fun i hi2 => ?_⟩, fun k hk => ⟨kg, 0, rfl, h.gates.1, ?_⟩⟩
 · rw [Nat.zero_add, h.row.at_ k (by omega)]
   unfold rowF
   rw [if_pos hk]
   simp [hk]
 · have hA := (h.done k hk).2.2.2
   refine ⟨K k, 0, rfl, hA.1, ?_⟩
   rw [show R.code.getD k [] = R.code[k] by simp [hk]] at hA
   have := frf_at hA
   rw [pad_size] at this
   have := padA_range (this.mono (Nat.zero_le (i * 5))) (by omega)
   rw [elI_in _ _ hi2] at this
   rw [Nat.zero_add]
   exact this
 · have := frf_at h.gates
   rw [padG_size] at this
   have := padG_range (this.mono (Nat.zero_le (k * 19))) (by omega)
   rw [elG_in _ _ hk] at this
   rw [Nat.zero_add]
   exact this
end Z
end Go.Proofs.YtmedafcmfbhjkaaGreat


namespace Go.Proofs.YtmedafcmfbhjkaaGreat
namespace Z
open Go.RowKit
open T (Sep Ob Kp Mf FlIn boxOb)

def snapOb (B : Nat) (V : World) : Ob := ⟨fun k => B ≤ k ∧ k < V.heap.size, fun X => V.heap.size ≤ X.heap.size ∧ ∀ k, B ≤ k → k < V.heap.size → X.heap[k]? = V.heap[k]?, fun _ h _ q => Nat.lt_of_lt_of_le q.2 h.1, fun _ _ _ h hk hd => ⟨Nat.le_trans h.1 hk.size, fun k h1 h2 => (hk.block k (Nat.lt_of_lt_of_le h2 h.1) (hd k ⟨h1, h2⟩)).trans (h.2 k h1 h2)⟩⟩
theorem snap_sep (B : Nat) (V : World) : Sep B V [snapOb B V] := by
 refine ⟨fun o ho => ?_, List.pairwise_cons.2 ⟨fun p hp => (by cases hp), List.Pairwise.nil⟩, fun o ho k q => ?_⟩
 · rw [List.mem_singleton.1 ho]
   exact ⟨Nat.le_refl _, fun _ _ _ => rfl⟩
 · rw [List.mem_singleton.1 ho] at q
   exact q.1
theorem snap_below {B : Nat} {V X : World} (h : (snapOb B V).In X) (hb : Below B V X) : Below V.heap.size V X :=
 ⟨hb.os, hb.tape, hb.output, h.1, fun k hk => by
   by_cases q : B ≤ k
   · exact h.2 k q hk
   · exact hb.block k (by omega)⟩
theorem sep_both {B : Nat} {V W' : World} {l : List Ob} {b : Nat} {P' : Pr} {s' : Fm} (h1 : Sep B V l) (le : B ≤ V.heap.size) (h2 : MIn V.heap.size W' b P' s' []) (hb : Below V.heap.size V W') : ∃ q', Sep B W' (obs B b P' s' q' ++ l) := by
 obtain ⟨⟨q', h3⟩, _⟩ := h2
 have h4 := obs_low h3 le
 have hge : ∀ o ∈ obs B b P' s' q', ∀ k, o.S k → V.heap.size ≤ k := fun o ho k r => by
   have e : (obs B b P' s' q').map Ob.S = (obs V.heap.size b P' s' q').map Ob.S := rfl
   have h5 : o.S ∈ (obs B b P' s' q').map Ob.S := List.mem_map_of_mem ho
   rw [e] at h5
   obtain ⟨p, hp, e2⟩ := List.mem_map.1 h5
   exact h3.ge p (by simp [hp]) k (by rw [e2]; exact r)
 rw [List.append_nil] at h4
 exact ⟨q', sep_append h4 (h1.gr hb) (fun o ho p hp k r t => by
   have := hge o ho k r
   have := p.lt V (h1.ins p hp) k t
   omega)⟩
theorem sep_last {B : Nat} {W W' : World} {l : List Ob} {o : Ob} (h : Sep B W (l ++ [o])) (hk : Kp o.S W W') : Sep B W' l := by
 have hd := List.pairwise_append.1 h.dis
 exact ⟨fun p hp => p.keep W W' o.S (h.ins p (by simp [hp])) hk (hd.2.2 p hp o (by simp)), hd.1, fun p hp => h.ge p (by simp [hp])⟩
theorem MD.over {B : Nat} {W W' : World} {P : Pr} {a : Nat} {s : Fm} {b : Nat} {c : Dc} {t : Fm} {o : Ob} (h : MD B W P a s b c t [o]) (hk : Kp o.S W W') (hS : ∀ k, o.S k → B ≤ k) : MD B W' P a s b c t [] ∧ Below B W W' := by
 obtain ⟨q2, ⟨⟨q, h1⟩, le⟩, ia, ic, e, hi⟩ := h.asX
 have bb : Below B W W' := hk.below le hS
 rw [← List.append_assoc] at h1
 have h3 := sep_last h1 hk
 exact ⟨MD.ofX (q2 := q2) ⟨⟨q, by rw [List.append_nil]; exact h3⟩, Nat.le_trans le bb.size⟩ e (hi.below bb), bb⟩
theorem src_row {W : World} {k : Nat} {A : List Int} (h : FRow W k (A.length + 8) (wdA A)) : A.length = 0 ∨ ∃ sb so, (some ⟨k, 0, none⟩ : Option Addr) = some ⟨sb, so, none⟩ ∧ sb < W.heap.size ∧ ∀ j, j < A.length → W.cell? ⟨sb, so + j, none⟩ = some (.int .u64 (srcA A j)) := by
 refine .inr ⟨k, 0, rfl, h.lt, fun j hj => ?_⟩
 rw [Nat.zero_add, h.at_ j (by omega)]
 unfold wdA srcA
 simp [hj]
theorem inl_row {W : World} {k : Nat} {A : List Int} (h : FRow W k (A.length + 8) (wdA A)) : (((some ⟨k, 0, none⟩ : Option Addr) = none ∧ A = [] ∧ A.length + 8 = 0) ∨ ∃ b off, (some ⟨k, 0, none⟩ : Option Addr) = some ⟨b, off, none⟩ ∧ b < W.heap.size ∧ ∀ i (h : i < A.length), W.cell? ⟨b, off + i, none⟩ = some (.int .u64 A[i])) := by
 refine .inr ⟨k, 0, rfl, h.lt, fun j hj => ?_⟩
 rw [Nat.zero_add, h.at_ j (by omega)]
 unfold wdA
 simp [hj]
theorem FRow.bel {B : Nat} {w w1 : World} {g n : Nat} {V : Nat → Value} (h : FRow w g n V) (q : Below B w w1) (hg : g < B) : FRow w1 g n V := h.block q.size (q.block g hg)
theorem LnA.bel {lo hi B : Nat} {W W' : World} {kc kg : Nat} {K : Nat → Nat} {rv : Value} {R : Rp} (h : LnA lo hi W kc kg K rv R) (q : Below B W W') (hB : hi ≤ B) : LnA lo hi W' kc kg K rv R :=
 h.keep (S := fun k => B ≤ k) ⟨q.os, q.tape, q.output, q.size, fun k _ hn => q.block k (by omega)⟩ (fun k _ h2 r => by have : B ≤ k := r; omega)
end Z
end Go.Proofs.YtmedafcmfbhjkaaGreat
