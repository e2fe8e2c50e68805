import Derived.Test.YthfphgjjieddjaaGreatZReady
import Derived.Test.YthfphgjjieddjaaGreatP30
import Derived.Test.YthfphgjjieddjaaGreatP29
import Derived.Test.YthfphgjjieddjaaGreatP35
import Derived.Test.YthfphgjjieddjaaGreatZSnEq
import Derived.Test.YthfphgjjieddjaaGreatZMac
import Derived.Test.YthfphgjjieddjaaGreatRRow0
import Derived.Test.YthfphgjjieddjaaGreatZOpsA
namespace Go.Proofs.YthfphgjjieddjaaGreat
set_option maxRecDepth 100000
set_option maxHeartbeats 40000000
namespace Z
open Go.RowKit
open T (Sep Ob Kp Mf FlIn boxOb)

theorem make_rowY {t e : TypeId} {z : Value} {b : Nat} (ht : Tryz.prog.underlying t = some (.slice e)) (hi : (Tryz.prog.info? e).map (fun i => (i.zero, i.size, i.bytes)) = some (some z, 1, b)) (hz : z.cells = #[z]) (hb : b ≤ 64) (n : Nat) (hn : n ≤ 3000000) (w : World) :
   (Instr.makeSlice t (.int .i64 n) (.int .i64 n)).run Tryz.prog w = .ok (.slice (some ⟨w.heap.size, 0, none⟩) n n) (w.alloc (.cells (Array.replicate n z) e)) := by
 obtain ⟨i0, hi0, hz0, hz1, hz2⟩ := T.info_parts' hi
 have hbb : (i0.bytes : Int) * (n : Int) ≤ 281474976710656 := by
   rw [hz2]
   have : b * n ≤ 64 * 3000000 := Nat.mul_le_mul hb hn
   have h : ((b * n : Nat) : Int) ≤ 281474976710656 := by omega
   rwa [Int.natCast_mul] at h
 have h := run_make (P := Tryz.prog) w t e i0 z ht hi0 hz0 .i64 .i64 n n (by omega) (by omega) hbb (by omega)
 rw [hz1, hz, Nat.mul_one, Int.toNat_natCast, made_oneZ] at h
 exact h
theorem FRow.block {w w1 : World} {g n : Nat} {V : Nat → Value} (h : FRow w g n V) (hs : w.heap.size ≤ w1.heap.size) (hb : w1.heap[g]? = w.heap[g]?) : FRow w1 g n V :=
 ⟨Nat.lt_of_lt_of_le h.lt hs, fun j hj => (T.cell_of_block hb j).trans (h.at_ j hj), fun j => (T.frozen_of_block hb j).trans (h.fr j)⟩
theorem FRow.congr {w : World} {g n : Nat} {V U : Nat → Value} (h : FRow w g n V) (e : ∀ j, j < n → V j = U j) : FRow w g n U := ⟨h.lt, fun j hj => by rw [← e j hj]; exact h.at_ j hj, h.fr⟩
def wdF (L : List Int) (i : Nat) (j : Nat) : Value := if j < i then .int .u64 (L.getD j 77) else .int .u64 0
def wdA (L : List Int) (j : Nat) : Value := .int .u64 (L.getD j 77)
theorem wdF_next (L : List Int) (i : Nat) (v : Int) (hv : v = L.getD i 77) (j : Nat) : updF (wdF L i) i (.int .u64 v) j = wdF L (i + 1) j := by
 unfold updF wdF
 by_cases e : j = i
 · rw [if_pos e, if_pos (by omega), hv, e]
 · rw [if_neg e]
   by_cases h : j < i
   · rw [if_pos h, if_pos (by omega)]
   · rw [if_neg h, if_neg (by omega)]
theorem updF_two (V : Nat → Value) (i : Nat) (a b : Value) (j : Nat) : updF (updF V i a) i b j = updF V i b j := by
 unfold updF
 by_cases e : j = i
 · rw [if_pos e, if_pos e]
 · rw [if_neg e, if_neg e, if_neg e]
theorem below_set1 {B g j : Nat} {w W : World} (h : Below B w W) (hg : B ≤ g) (v : Value) : Below B w (W.setCell ⟨g, j, none⟩ v) := h.setCell hg v
theorem words_any (L : List Int) (sa : Option Addr) (sc : Nat) (w : World) (hL : WIn w sa L) (hl : L.length ≤ 2000000) :
   Calls Tryz.prog 16 #[.slice sa L.length sc] w fun x w' => ∃ k, x = .returned (.slice (some ⟨k, 0, none⟩) L.length (L.length + 8)) ∧ w.heap.size ≤ k ∧ FRow w' k (L.length + 8) (wdA L) ∧ Below w.heap.size w w' := by
 have w1 : wrap64 ((L.length : Int) + 8) = (L.length : Int) + 8 := by unfold wrap64; omega
 have w2 : IntKind.i64.wrap ((L.length : Int) + 8) = (L.length : Int) + 8 := by rw [IntKind.wrap_i64]; omega
 have u2 : (L.length : Int) ≤ (L.length : Int) + 8 := by omega
 have mk1 := make_rowY (t := 26) (e := 34) (z := .int .u64 0) (b := 8) Tryz.underlying26 (by kernel_rfl) rfl (by decide) (L.length + 8) (by omega) w
 rw [show ((L.length + 8 : Nat) : Int) = (L.length : Int) + 8 by omega] at mk1
 have hF0 := Hz.mk (FRow.new w (L.length + 8) (.int .u64 0) 34)
 have hB0 := Hz.mk ((Below.refl _ w).alloc (Nat.le_refl w.heap.size) (.cells (Array.replicate (L.length + 8) (.int .u64 0)) 34))
 have hn8 : L.length + 8 ≤ 3000000 := by omega
 replace hL := Hz.mk hL
 go_enter Tryz.func16, Tryz.ntmps16
 go_upto_region 3 with fail
 generalize hWW : w.alloc (.cells (Array.replicate (L.length + 8) (.int .u64 0)) 34) = W3 at *
 have hgw : w.heap.size ≤ w.heap.size := Nat.le_refl _
 generalize hg : w.heap.size = g at mk1 hF0 hgw ⊢
 replace hg := Hz.mk hg
 replace hWW := Hz.mk hWW
 clear mk1
 go_loopw [4] (fun x wr => ∃ i : Nat, x = .int .i64 i ∧ i ≤ L.length + 8 ∧ Hz (FRow wr g (L.length + 8) (wdF L i)) ∧ Hz (Below w.heap.size w wr)) (fun x _ => L.length + 8 - (intOf x).toNat)
 case atStart => exact ⟨0, rfl, Nat.zero_le _, Hz.mk (hF0.out.congr (fun j _ => by unfold wdF; rw [if_neg (by omega)])), hB0⟩
 case round =>
   clear hF0 hB0
   obtain ⟨i, rfl, hi, hF, hB⟩ := hrel
   by_cases hin : i < L.length + 8
   · have hi1 : (i : Int) < (L.length : Int) + 8 := by omega
     have c1 := hF.out.at_ i hin
     have f1 := hF.out.fr i
     have hgl := hF.out.lt
     have hF1 := hF.out.set i (.int .u64 77) hin
     have hB1 := below_set1 (g := g) (j := i) hB.out (by have := hg.out; omega) (.int .u64 77)
     by_cases hil : i < L.length
     · have hi2 : (i : Int) < (L.length : Int) := by omega
       obtain ⟨b, off, rfl, hbl, hcl⟩ := hL.out i hil
       have hbg : b ≠ g := by have := hg.out; omega
       have c2 : wr.cell? ⟨b, off + i, none⟩ = some (.int .u64 L[i]) := (T.cell_of_block (hB.out.block b hbl) _).trans hcl
       have c3 : (wr.setCell ⟨g, i, none⟩ (.int .u64 77)).cell? ⟨b, off + i, none⟩ = some (.int .u64 L[i]) := by rw [T.cso (fun e => absurd e.symm hbg)]; exact c2
       have c4 := hF1.at_ i hin
       have f4 := hF1.fr i
       have hF2 := hF1.set i (.int .u64 L[i]) hin
       have hB2 := below_set1 (g := g) (j := i) hB1 (by have := hg.out; omega) (.int .u64 L[i])
       have hfr := hF2.congr (fun j _ => (updF_two _ _ _ _ j).trans (wdF_next L i L[i] (by simp [hil]) j))
       have hbn := hB2
       have hgl2 := hF1.lt
       replace hF1 := Hz.mk hF1
       replace hF2 := Hz.mk hF2
       replace hB1 := Hz.mk hB1
       replace hB2 := Hz.mk hB2
       replace hfr := Hz.mk hfr
       replace hbn := Hz.mk hbn
       clear hcl
       go_wp2_with fail
       replace hfr := hfr.out
       replace hbn := hbn.out
       refine ⟨⟨i + 1, ?_, hin, Hz.mk hfr, Hz.mk hbn⟩, ?_⟩
       · first | rfl | rw [next_wZ hin (by omega)] | go_num
       · first | exact next_mZ hin | (rw [next_wZ hin (by omega)]; exact next_mZ hin)
     · have hi2 : ¬ (i : Int) < (L.length : Int) := by omega
       have hfr := hF1.congr (fun j _ => wdF_next L i 77 (by simp [List.getD_eq_getElem?_getD, List.getElem?_eq_none (by omega : L.length ≤ i)]) j)
       have hbn := hB1
       replace hF1 := Hz.mk hF1
       replace hB1 := Hz.mk hB1
       replace hfr := Hz.mk hfr
       replace hbn := Hz.mk hbn
       go_wp2_with fail
       replace hfr := hfr.out
       replace hbn := hbn.out
       refine ⟨⟨i + 1, ?_, hin, Hz.mk hfr, Hz.mk hbn⟩, ?_⟩
       · first | rfl | rw [next_wZ hin (by omega)] | go_num
       · first | exact next_mZ hin | (rw [next_wZ hin (by omega)]; exact next_mZ hin)
   · have hi1 : ¬ (i : Int) < (L.length : Int) + 8 := by omega
     obtain rfl : i = L.length + 8 := by omega
     go_wp2_with fail
     go_ret
     exact ⟨g, rfl, Nat.le_of_eq hg.out, hF.out.congr (fun j hj => by unfold wdF wdA; rw [if_pos hj]), hB.out⟩
def FrF (w : World) (g n i : Nat) (V : Nat → Value) : Prop := ∃ U, FRow w g n U ∧ ∀ j, i ≤ j → U j = V j
theorem FrF.set {w : World} {g n i : Nat} {V : Nat → Value} (h : FrF w g n i V) (v : Value) (hi : i < n) : FrF (w.setCell ⟨g, i, none⟩ v) g n (i + 1) V := by
 obtain ⟨U, h1, h2⟩ := h
 refine ⟨_, h1.set i v hi, fun j hj => ?_⟩
 unfold updF
 rw [if_neg (by omega)]
 exact h2 j (by omega)
theorem FrF.at {w : World} {g n i : Nat} {V : Nat → Value} (h : FrF w g n i V) (hi : i < n) : w.cell? ⟨g, i, none⟩ = some (V i) ∧ w.frozen? ⟨g, i, none⟩ = false ∧ g < w.heap.size := by
 obtain ⟨U, h1, h2⟩ := h
 exact ⟨by rw [← h2 i (Nat.le_refl i)]; exact h1.at_ i hi, h1.fr i, h1.lt⟩
theorem FrF.block {w w1 : World} {g n i : Nat} {V : Nat → Value} (h : FrF w g n i V) (hs : w.heap.size ≤ w1.heap.size) (hb : w1.heap[g]? = w.heap[g]?) : FrF w1 g n i V := by
 obtain ⟨U, h1, h2⟩ := h
 exact ⟨U, h1.block hs hb, h2⟩
end Z
end Go.Proofs.YthfphgjjieddjaaGreat


namespace Go.Proofs.YthfphgjjieddjaaGreat
namespace Z
open Go.RowKit
open T (Sep Ob Kp Mf FlIn boxOb)

def padA (L : List Ri) : Array Value := (rowV [] Ri.vals (L ++ List.replicate 8 riZ)).toArray
def padG (L : List Rg) : Array Value := (rowV [] Rg.vals (L ++ List.replicate 8 rgZ)).toArray
def rowF (C : List (List Ri)) (K : Nat → Nat) (k : Nat) (j : Nat) : Value := if j < k then .slice (some ⟨K j, 0, none⟩) (C.getD j []).length ((C.getD j []).length + 8) else .slice none 0 0
def rwE (C : List (List Ri)) (K : Nat → Nat) (j : Nat) : Value := .slice (some ⟨K j, 0, none⟩) ((C.getD j []).length + 8) ((C.getD j []).length + 8)
def rwsL (C : List (List Ri)) (K : Nat → Nat) (k : Nat) : List Value := (List.range k).map (rwE C K)
def updN (K : Nat → Nat) (k g : Nat) : Nat → Nat := fun j => if j = k then g else K j
theorem updN_at (K : Nat → Nat) (k g : Nat) : updN K k g k = g := by unfold updN; rw [if_pos rfl]
theorem updN_ne (K : Nat → Nat) {k g j : Nat} (h : j ≠ k) : updN K k g j = K j := by unfold updN; rw [if_neg h]
theorem rwsL_upd (C : List (List Ri)) (K : Nat → Nat) (k g : Nat) : rwsL C (updN K k g) k = rwsL C K k := by
 unfold rwsL
 refine List.map_congr_left (fun j hj => ?_)
 unfold rwE
 rw [updN_ne K (by have := List.mem_range.1 hj; omega)]
theorem rwsL_succ (C : List (List Ri)) (K : Nat → Nat) (k : Nat) : rwsL C K (k + 1) = rwsL C K k ++ [rwE C K k] := by
 unfold rwsL
 rw [List.range_succ, List.map_append]
 rfl
theorem made_copyY {α : Type} {vals : α → List Value} {k b : Nat} {Z : α} (hk : 0 < k) (hv : ∀ x, (vals x).length = k) (h1 : ∀ x, ∀ v ∈ vals x, v.oneCell' = true) {t e : TypeId} (ty : TypeId) (ht : Tryz.prog.underlying t = some (.slice e)) (hi : (Tryz.prog.info? e).map (fun i => (i.zero, i.size, i.bytes)) = some (some (.agg (vals Z).toArray), k, b)) (hs : (Tryz.prog.info? e).map (·.size) = some k)
   (L : List α) (a : Option Addr) (c : Nat) (w : World) (hL : T.EIn k vals w a L) (hb : b ≤ 256) (hn : L.length ≤ 2000000) :
   ∃ V9 V2, (Instr.makeSlice t (.int .i64 ((L.length : Int) + 8)) (.int .i64 ((L.length : Int) + 8))).run Tryz.prog w = .ok (.slice (some ⟨w.heap.size, 0, none⟩) (L.length + 8) (L.length + 8)) V9 ∧
   (Builtin.copy_ #[t, t] ty #[.slice (some ⟨w.heap.size, 0, none⟩) (L.length + 8) (L.length + 8), .slice a L.length c]).run Tryz.prog V9 = .ok (goInt L.length) V2 ∧
   At V2 w.heap.size (rowV [] vals (L ++ List.replicate 8 Z)).toArray ∧ Gr w V9 ∧ Gr w V2 ∧ w.heap.size < V2.heap.size ∧ w.heap.size < V9.heap.size := by
 have hb2 : b * (L.length + 8) ≤ 281474976710656 := Nat.le_trans (Nat.mul_le_mul_right _ hb) (by omega)
 have hm := make_k (vals := vals) (Z := Z) (t := t) (e := e) (k := k) (b := b) hk hv ht hi (L.length + 8) (by omega) hb2 w
 rw [show ((L.length + 8 : Nat) : Int) = (L.length : Int) + 8 by omega] at hm
 have g1 : Gr w (w.alloc (.cells (rowV [] vals (List.replicate (L.length + 8) Z)).toArray e)) := (Gr.refl w).alloc _
 have q := copy_rows (c := c) (k := k) hk hv h1 ty ht hs (At.new w (rowV [] vals (List.replicate (L.length + 8) Z)).toArray e) (L := L) (a := a) (ein_fin hv hL g1.below) (by simp)
 rw [List.length_replicate] at q
 refine ⟨_, _, hm, q.1, ?_, g1, g1.setCells _ (Nat.le_refl _) _ _, q.2.1, (At.new w (rowV [] vals (List.replicate (L.length + 8) Z)).toArray e).1⟩
 have := q.2
 rw [List.drop_replicate, show L.length + 8 - L.length = 8 by omega] at this
 exact this
structure Ln2 (W1 wr : World) (g : Nat) (C : List (List Ri)) (k : Nat) (K : Nat → Nat) : Prop where
 row : FRow wr g (C.length + 8) (rowF C K k)
 done : ∀ j, j < k → W1.heap.size ≤ K j ∧ K j ≠ g ∧ At wr (K j) (padA (C.getD j []))
 inj : ∀ i j, i < k → j < k → K i = K j → i = j
 bel : Below W1.heap.size W1 wr
 new : W1.heap.size ≤ g
theorem at_keep {S : Nat → Prop} {w w1 : World} {b : Nat} {cs : Array Value} (h : At w b cs) (q : Kp S w w1) (hn : ¬ S b) : At w1 b cs :=
 ⟨Nat.lt_of_lt_of_le h.1 q.size, fun j => (T.cell_of_block (q.block b h.1 hn) j).trans (h.2.1 j), fun j => (T.frozen_of_block (q.block b h.1 hn) j).trans (h.2.2 j)⟩
theorem FRow.keep {S : Nat → Prop} {w w1 : World} {g n : Nat} {V : Nat → Value} (h : FRow w g n V) (q : Kp S w w1) (hn : ¬ S g) : FRow w1 g n V := h.block q.size (q.block g h.lt hn)
theorem Ln2.keep {W1 wr W : World} {g k : Nat} {C : List (List Ri)} {K : Nat → Nat} {S : Nat → Prop} (h : Ln2 W1 wr g C k K) (q : Kp S wr W) (hg : ¬ S g) (hS : ∀ b, S b → W1.heap.size ≤ b) (hr : ∀ j, j < k → ¬ S (K j)) : Ln2 W1 W g C k K :=
 ⟨h.row.keep q hg, fun j hj => ⟨(h.done j hj).1, (h.done j hj).2.1, at_keep (h.done j hj).2.2 q (hr j hj)⟩, h.inj, h.bel.trans ⟨q.os, q.tape, q.output, q.size, fun b hb => q.block b (Nat.lt_of_lt_of_le hb h.bel.size) (fun r => by have := hS b r; omega)⟩, h.new⟩
theorem Ln2.gr {W1 wr W : World} {g k : Nat} {C : List (List Ri)} {K : Nat → Nat} (h : Ln2 W1 wr g C k K) (q : Gr wr W) : Ln2 W1 W g C k K :=
 h.keep (S := fun _ => False) (Kp.of_below q.below) (fun r => r) (fun _ r => r.elim) (fun _ _ r => r)
theorem Ln2.lay {W1 wr : World} {g k gk : Nat} {C : List (List Ri)} {K : Nat → Nat} (h : Ln2 W1 wr g C k K) (hk : k < C.length) (h1 : W1.heap.size ≤ gk) (h2 : gk ≠ g) (h3 : ∀ j, j < k → K j ≠ gk) (h4 : At wr gk (padA C[k])) : Ln2 W1 (wr.setCell ⟨g, k, none⟩ (.slice (some ⟨gk, 0, none⟩) C[k].length (C[k].length + 8))) g C (k + 1) (updN K k gk) := by
 have hkp : Kp (fun b => b = g) wr (wr.setCell ⟨g, k, none⟩ (.slice (some ⟨gk, 0, none⟩) C[k].length (C[k].length + 8))) := Kp.set (S := fun b => b = g) wr ⟨g, k, none⟩ _ rfl
 have eC : C.getD k [] = C[k] := by simp [hk]
 refine ⟨(h.row.set k _ (by omega)).congr (fun j hj => ?_), fun j hj => ?_, fun i j hi hj e => ?_, h.bel.trans ⟨hkp.os, hkp.tape, hkp.output, hkp.size, fun b hb => hkp.block b (Nat.lt_of_lt_of_le hb h.bel.size) (fun e => by have := h.new; omega)⟩, h.new⟩
 · unfold updF rowF
   by_cases e : j = k
   · subst e
     rw [if_pos rfl, if_pos (by omega), updN_at, eC]
   · rw [if_neg e]
     by_cases q : j < k
     · rw [if_pos q, if_pos (by omega), updN_ne K e]
     · rw [if_neg q, if_neg (by omega)]
 · by_cases e : j = k
   · subst e
     rw [updN_at, eC]
     exact ⟨h1, h2, at_keep h4 hkp h2⟩
   · rw [updN_ne K e]
     obtain ⟨e1, e2, e3⟩ := h.done j (by omega)
     exact ⟨e1, e2, at_keep e3 hkp e2⟩
 · by_cases ei : i = k
   · by_cases ej : j = k
     · omega
     · rw [ei, updN_at, updN_ne K ej] at e
       exact absurd e.symm (h3 j (by omega))
   · by_cases ej : j = k
     · rw [ej, updN_at, updN_ne K ei] at e
       exact absurd e (h3 i (by omega))
     · rw [updN_ne K ei, updN_ne K ej] at e
       exact h.inj i j (by omega) (by omega) e
def Apt2 (v : Value) (g k : Nat) (K : Nat → Nat) : Prop := ∀ b, v.ownBlock = some b → b ≠ g ∧ ∀ j, j < k → K j ≠ b
theorem Apt2.lay {v : Value} {g k gk : Nat} {K : Nat → Nat} (h : Apt2 v g k K) (hb : ∀ b, v.ownBlock = some b → b ≠ gk) : Apt2 v g (k + 1) (updN K k gk) := fun b hv => by
 obtain ⟨h1, h2⟩ := h b hv
 refine ⟨h1, fun j hj => ?_⟩
 by_cases ej : j = k
 · subst ej
   rw [updN_at]
   exact fun q => hb b hv q.symm
 · rw [updN_ne K ej]
   exact h2 j (by omega)
theorem Ln2.app {W1 wr W : World} {g k g9 c9 n9 : Nat} {C : List (List Ri)} {K : Nat → Nat} {v : Value} (h : Ln2 W1 wr g C k K) (ap : Apt2 v g k K) (q : wr.grownBy W v.ownBlock) (hv : ∀ b, v.ownBlock = some b → W1.heap.size ≤ b) (h9 : v.ownBlock = some g9 ∨ g9 = wr.heap.size) : Ln2 W1 W g C k K ∧ Apt2 (.slice (some ⟨g9, 0, none⟩) n9 c9) g k K := by
 refine ⟨h.keep (kp_grown q) (fun r => (ap g r).1 rfl) hv (fun j hj r => (ap (K j) r).2 j hj rfl), fun b hb => ?_⟩
 have e9 : g9 = b := by simpa [Value.ownBlock] using hb
 subst e9
 rcases h9 with r | r
 · exact ap _ r
 · subst r
   refine ⟨fun e => ?_, fun j hj e => ?_⟩
   · have := h.row.lt; omega
   · have := (h.done j hj).2.2.1; omega
structure LnA (lo hi : Nat) (W : World) (kc kg : Nat) (K : Nat → Nat) (rv : Value) (R : Rp) : Prop where
 row : FRow W kc (R.code.length + 8) (rowF R.code K R.code.length)
 done : ∀ j, j < R.code.length → (lo ≤ K j ∧ K j < hi) ∧ K j ≠ kc ∧ K j ≠ kg ∧ At W (K j) (padA (R.code.getD j []))
 inj : ∀ i j, i < R.code.length → j < R.code.length → K i = K j → i = j
 own : W.ownsRow lo 43 1 rv R.code.length (rwsL R.code K R.code.length)
 ap : ∀ b, rv.ownBlock = some b → b < hi ∧ b ≠ kc ∧ b ≠ kg ∧ ∀ j, j < R.code.length → K j ≠ b
 gates : At W kg (padG R.gates)
 kc_ : lo ≤ kc ∧ kc < hi
 kg_ : lo ≤ kg ∧ kg < hi
 ne : kc ≠ kg
theorem LnA.keep {lo hi : Nat} {W W' : World} {kc kg : Nat} {K : Nat → Nat} {rv : Value} {R : Rp} {S : Nat → Prop} (h : LnA lo hi W kc kg K rv R) (q : Kp S W W') (hS : ∀ k, lo ≤ k → k < hi → ¬ S k) : LnA lo hi W' kc kg K rv R :=
 ⟨h.row.keep q (hS _ h.kc_.1 h.kc_.2), fun j hj => ⟨(h.done j hj).1, (h.done j hj).2.1, (h.done j hj).2.2.1, at_keep (h.done j hj).2.2.2 q (hS _ (h.done j hj).1.1 (h.done j hj).1.2)⟩, h.inj, own_keep h.own q (fun k r => hS k ((h.own.lt k r).1) ((h.ap k r).1)), h.ap, at_keep h.gates q (hS _ h.kg_.1 h.kg_.2), h.kc_, h.kg_, h.ne⟩
theorem ln_fin {w W V2 V5 V6 : World} {g kg : Nat} {R : Rp} {K : Nat → Nat} {v : Value} (h : Ln2 W V2 g R.code R.code.length K) (ho : V2.ownsRow W.heap.size 43 1 v R.code.length (rwsL R.code K R.code.length)) (ap : Apt2 v g R.code.length K) (hE : At V2 kg (padG R.gates)) (k1 : Kp (fun b => b = w.heap.size) V2 V5) (k2 : Kp (fun b => b = w.heap.size + 1) V5 V6) (hs : W.heap.size = w.heap.size + 1 + 1) (hg1 : W.heap.size ≤ kg) (hg2 : kg ≠ g) (hg3 : ∀ j, j < R.code.length → K j ≠ kg) (hg4 : ∀ b, v.ownBlock = some b → b ≠ kg) : LnA w.heap.size V6.heap.size V6 g kg K v R := by
 have hk : Kp (fun b => b = w.heap.size ∨ b = w.heap.size + 1) V2 V6 := (Kp.mono k1 (fun _ r => .inl (.inl r))).trans (Kp.mono k2 (fun _ r => .inl (.inr r))) (fun _ r => .inl r)
 have hnew := h.new
 have hz := hk.size
 refine ⟨h.row.keep hk (by omega), fun j hj => ?_, h.inj, own_monoZ (own_keep ho hk (fun k r => by have := (ho.lt k r).1; omega)) (by omega), fun b r => ?_, at_keep hE hk (by omega), ⟨by omega, by have := h.row.lt; omega⟩, ⟨by omega, by have := hE.1; omega⟩, fun e => hg2 e.symm⟩
 · obtain ⟨e1, e2, e3⟩ := h.done j hj
   exact ⟨⟨by omega, by have := e3.1; omega⟩, e2, hg3 j hj, at_keep e3 hk (by omega)⟩
 · exact ⟨by have := (ho.lt b r).2; omega, (ap b r).1, hg4 b r, (ap b r).2⟩
end Z
end Go.Proofs.YthfphgjjieddjaaGreat


namespace Go.Proofs.YthfphgjjieddjaaGreat
set_option maxRecDepth 100000
set_option maxHeartbeats 40000000
namespace Z
open Go.RowKit
open T (Sep Ob Kp Mf FlIn boxOb)

theorem ri_eql (i : Ri) (W : World) : (binOp .eql 42 (.agg i.vals.toArray) (.agg i.vals.toArray)).run Tryz.prog W = .ok (.bool true) W := by
 show (binOp .eql 42 (.agg #[.int .u8 i.op, .int .i64 i.a, .int .i64 i.b, .int .i64 i.c, .int .u64 i.i]) (.agg #[.int .u8 i.op, .int .i64 i.a, .int .i64 i.b, .int .i64 i.c, .int .u64 i.i])).run Tryz.prog W = _
 simp [go_sem]
theorem fe_in (dd : Nat) (g p d : Int) (r : Nat → Int) (W : World) : (Op.equalIn (dd + 6) 83 (.agg (snV g p d r).toArray) (.agg (snV g p d r).toArray)).run Tryz.prog W = .ok true W := by
 have ha := arr_in dd r W
 unfold snV
 rw [regs_lit] at ha ⊢
 simp [go_sem, ha]
theorem fe_eql (g : Rg) (W : World) : (binOp .eql 83 (.agg g.vals.toArray) (.agg g.vals.toArray)).run Tryz.prog W = .ok (.bool true) W := by
 rw [show g.vals = snV g.e g.a g.s g.r from rfl, run_eql_struct, fe_in 9994 g.e g.a g.s g.r W]
 rfl
theorem FrF.mono {w : World} {g n i j : Nat} {V : Nat → Value} (h : FrF w g n i V) (hj : i ≤ j) : FrF w g n j V := by
 obtain ⟨U, h1, h2⟩ := h
 exact ⟨U, h1, fun k hk => h2 k (by omega)⟩
theorem FrF.keep {S : Nat → Prop} {w w1 : World} {g n i : Nat} {V : Nat → Value} (h : FrF w g n i V) (q : Kp S w w1) (hn : ¬ S g) : FrF w1 g n i V := by
 obtain ⟨U, h1, h2⟩ := h
 exact ⟨U, h1.keep q hn, h2⟩
theorem FrF.sets {g n : Nat} {V : Nat → Value} (vs : List Value) : ∀ {w : World} {i : Nat} (_ : FrF w g n i V) (_ : i + vs.length ≤ n), FrF (w.setCells g i vs) g n (i + vs.length) V := by
 induction vs with
 | nil => intro w i h _; exact h
 | cons v r ih =>
   intro w i h hl
   rw [List.length_cons] at hl
   have := ih (h.set v (by omega)) (by omega)
   rw [List.length_cons, show i + (r.length + 1) = i + 1 + r.length by omega]
   exact this
theorem FrF.there {w : World} {g n i : Nat} {V : Nat → Value} (h : FrF w g n i V) (o k : Nat) (hk : o + k ≤ n) : w.there g o k := by
 obtain ⟨U, h1, _⟩ := h
 exact fun j hj => ⟨by rw [h1.at_ (o + j) (by omega)]; rfl, h1.fr _⟩
def cellF (A : Array Value) (m : Nat) : Value := A.getD m undef
theorem frf_at {w : World} {b : Nat} {A : Array Value} (h : At w b A) : FrF w b A.size 0 (cellF A) := ⟨_, ⟨h.1, fun j hj => by rw [h.2.1 j]; unfold cellF; simp [hj], h.2.2⟩, fun _ _ => rfl⟩
theorem frf_range {α : Type} {f : α → List Value} {k : Nat} (hf : ∀ x, (f x).length = k) {w : World} {b i : Nat} {L : List α} (h : FrF w b (rowV [] f L).toArray.size (i * k) (cellF (rowV [] f L).toArray)) (hi : i < L.length) : w.rangeAt b (i * k) (f L[i]) := fun j v q => by
 obtain ⟨U, h1, h2⟩ := h
 have hj : j < k := by have := (List.getElem?_eq_some_iff.1 q).1; rwa [hf] at this
 have hs : (rowV [] f L).toArray.size = L.length * k := by simp [row_len hf]
 have hr := row_at (pre := []) hf L i hi j hj
 have hlt : i * k + j < L.length * k := by
   have : (i + 1) * k ≤ L.length * k := Nat.mul_le_mul_right _ hi
   rw [Nat.add_mul] at this
   omega
 rw [h1.at_ (i * k + j) (by rw [hs]; exact hlt), h2 _ (by omega), cellF]
 rw [List.length_nil, Nat.zero_add] at hr
 rw [q] at hr
 simp [Array.getD_eq_getD_getElem?, hr]
theorem pad_size (L : List Ri) : (padA L).size = (L.length + 8) * 5 := by unfold padA; rw [List.size_toArray, row_len ri_len]; simp
theorem padG_size (L : List Rg) : (padG L).size = (L.length + 8) * 19 := by unfold padG; rw [List.size_toArray, row_len Rg.len]; simp
def elI (L : List Ri) (e : Nat) : Ri := (L ++ List.replicate 8 riZ).getD e riZ
def elG (L : List Rg) (e : Nat) : Rg := (L ++ List.replicate 8 rgZ).getD e rgZ
theorem elI_in (L : List Ri) (e : Nat) (h : e < L.length) : elI L e = L[e] := by unfold elI; simp [List.getD_eq_getElem?_getD, List.getElem?_append_left h, h]
theorem elI_out (L : List Ri) (e : Nat) (h : L.length ≤ e) : elI L e = riZ := by
 unfold elI
 rw [List.getD_eq_getElem?_getD, List.getElem?_append_right h, List.getElem?_replicate]
 split <;> rfl
theorem elG_in (L : List Rg) (e : Nat) (h : e < L.length) : elG L e = L[e] := by unfold elG; simp [List.getD_eq_getElem?_getD, List.getElem?_append_left h, h]
theorem elG_out (L : List Rg) (e : Nat) (h : L.length ≤ e) : elG L e = rgZ := by
 unfold elG
 rw [List.getD_eq_getElem?_getD, List.getElem?_append_right h, List.getElem?_replicate]
 split <;> rfl
theorem padA_range {w : World} {b e : Nat} {L : List Ri} (h : FrF w b ((L.length + 8) * 5) (e * 5) (cellF (padA L))) (he : e < L.length + 8) : w.rangeAt b (e * 5) (elI L e).vals := by
 have h2 : FrF w b (rowV [] Ri.vals (L ++ List.replicate 8 riZ)).toArray.size (e * 5) (cellF (rowV [] Ri.vals (L ++ List.replicate 8 riZ)).toArray) := by
   have := pad_size L
   unfold padA at this
   rw [this]
   exact h
 have hl : e < (L ++ List.replicate 8 riZ).length := by simp; omega
 have := frf_range ri_len h2 hl
 rw [show elI L e = (L ++ List.replicate 8 riZ)[e] by unfold elI; rw [List.getD_eq_getElem?_getD, List.getElem?_eq_getElem hl]; rfl]
 exact this
theorem padG_range {w : World} {b e : Nat} {L : List Rg} (h : FrF w b ((L.length + 8) * 19) (e * 19) (cellF (padG L))) (he : e < L.length + 8) : w.rangeAt b (e * 19) (elG L e).vals := by
 have h2 : FrF w b (rowV [] Rg.vals (L ++ List.replicate 8 rgZ)).toArray.size (e * 19) (cellF (rowV [] Rg.vals (L ++ List.replicate 8 rgZ)).toArray) := by
   have := padG_size L
   unfold padG at this
   rw [this]
   exact h
 have hl : e < (L ++ List.replicate 8 rgZ).length := by simp; omega
 have := frf_range Rg.len h2 hl
 rw [show elG L e = (L ++ List.replicate 8 rgZ)[e] by unfold elG; rw [List.getD_eq_getElem?_getD, List.getElem?_eq_getElem hl]; rfl]
 exact this
def LnS (kc kg : Nat) (K : Nat → Nat) (n : Nat) (k : Nat) : Prop := k = kc ∨ k = kg ∨ ∃ j, j < n ∧ k = K j
structure Bk (W1 wr : World) (kc kg : Nat) (K : Nat → Nat) (R : Rp) (i : Nat) : Prop where
 kp : Kp (LnS kc kg K R.code.length) W1 wr
 code : FrF wr kc (R.code.length + 8) i (rowF R.code K R.code.length)
 rows : ∀ j, i ≤ j → j < R.code.length → At wr (K j) (padA (R.code.getD j []))
 gates : At wr kg (padG R.gates)
theorem LnA.rp {lo hi : Nat} {W : World} {kc kg : Nat} {K : Nat → Nat} {rv : Value} {R : Rp} (h : LnA lo hi W kc kg K rv R) : RpIn W (some ⟨kc, 0, none⟩) (some ⟨kg, 0, none⟩) R := by
 refine ⟨fun k hk => ⟨kc, 0, some ⟨K k, 0, none⟩, R.code[k].length + 8, rfl, h.row.lt, ?_, fun i hi2 => ?_⟩, fun k hk => ⟨kg, 0, rfl, h.gates.1, ?_⟩⟩
 · rw [Nat.zero_add, h.row.at_ k (by omega)]
   unfold rowF
   rw [if_pos hk]
   simp [hk]
 · have hA := (h.done k hk).2.2.2
   refine ⟨K k, 0, rfl, hA.1, ?_⟩
   rw [show R.code.getD k [] = R.code[k] by simp [hk]] at hA
   have := frf_at hA
   rw [pad_size] at this
   have := padA_range (this.mono (Nat.zero_le (i * 5))) (by omega)
   rw [elI_in _ _ hi2] at this
   rw [Nat.zero_add]
   exact this
 · have := frf_at h.gates
   rw [padG_size] at this
   have := padG_range (this.mono (Nat.zero_le (k * 19))) (by omega)
   rw [elG_in _ _ hk] at this
   rw [Nat.zero_add]
   exact this
end Z
end Go.Proofs.YthfphgjjieddjaaGreat


namespace Go.Proofs.YthfphgjjieddjaaGreat
namespace Z
open Go.RowKit
open T (Sep Ob Kp Mf FlIn boxOb)

def Rp.put (R : Rp) (i k : Nat) (x : Ri) : Rp := ⟨R.code.set i ((R.code.getD i []).set k x), R.gates, R.dep⟩
theorem put_len (R : Rp) (i k : Nat) (x : Ri) : (R.put i k x).code.length = R.code.length := by simp [Rp.put]
theorem put_row (R : Rp) (i k : Nat) (x : Ri) (j : Nat) : ((R.put i k x).code.getD j []).length = (R.code.getD j []).length := by
 unfold Rp.put
 by_cases e : i = j
 · subst e
   by_cases h : i < R.code.length
   · simp [h]
   · simp [h]
 · simp [List.getD_eq_getElem?_getD, List.getElem?_set_ne e]
theorem LnA.put {lo hi : Nat} {W : World} {kc kg : Nat} {K : Nat → Nat} {rv : Value} {R : Rp} (h : LnA lo hi W kc kg K rv R) (i k : Nat) (x : Ri) (hi2 : i < R.code.length) (hk : k < (R.code.getD i []).length) : LnA lo hi (W.setCells (K i) (k * 5) x.vals) kc kg K rv (R.put i k x) := by
 have hkp := kp_setsZ W (K i) x.vals (k * 5)
 obtain ⟨d1, d2, d3, d4⟩ := h.done i hi2
 refine ⟨?_, fun j hj => ?_, fun a b ha hb e => h.inj a b (by rw [put_len] at ha; exact ha) (by rw [put_len] at hb; exact hb) e, ?_, fun b r => ?_, at_keep h.gates hkp (fun e => d3 e.symm), h.kc_, h.kg_, h.ne⟩
 · rw [put_len]
   refine (h.row.keep hkp (fun e => d2 e.symm)).congr (fun j _ => ?_)
   unfold rowF
   rw [put_row]
 · rw [put_len] at hj
   obtain ⟨c1, c2, c3, c4⟩ := h.done j hj
   refine ⟨c1, c2, c3, ?_⟩
   by_cases e : j = i
   · subst e
     have e1 : (R.put j k x).code.getD j [] = (R.code.getD j []).set k x := by simp [Rp.put, hi2]
     rw [e1]
     have q := At.setElem (pre := []) ri_len (L := R.code.getD j [] ++ List.replicate 8 riZ) c4 k (by rw [List.length_append, List.length_replicate]; omega) x (k * 5) (by simp)
     rw [List.set_append_left _ _ hk] at q
     exact q
   · have e1 : (R.put i k x).code.getD j [] = R.code.getD j [] := by simp [Rp.put, List.getD_eq_getElem?_getD, List.getElem?_set_ne (Ne.symm e)]
     rw [e1]
     exact at_keep c4 hkp (fun q => e (h.inj j i hj hi2 q))
 · rw [put_len]
   have e1 : rwsL (R.put i k x).code K R.code.length = rwsL R.code K R.code.length := by
     unfold rwsL
     refine List.map_congr_left (fun j _ => ?_)
     unfold rwE
     rw [put_row]
   rw [e1]
   exact own_keep h.own hkp (fun b r e => (h.ap b r).2.2.2 i hi2 e.symm)
 · rw [put_len]
   exact h.ap b r
def tnI : Ri := ⟨27, 1, 0, 0, 0⟩
def tnR (R : Rp) : Nat → Rp
 | 0 => R
 | i + 1 => (tnR R i).put i ((R.code.getD i []).length / 2) tnI
theorem tnR_len (R : Rp) : ∀ i, (tnR R i).code.length = R.code.length
 | 0 => rfl
 | i + 1 => by rw [tnR, put_len, tnR_len R i]
theorem tnR_row (R : Rp) (j : Nat) : ∀ i, ((tnR R i).code.getD j []).length = (R.code.getD j []).length
 | 0 => rfl
 | i + 1 => by rw [tnR, put_row, tnR_row R j i]
theorem tnR_gates (R : Rp) : ∀ i, (tnR R i).gates = R.gates ∧ (tnR R i).dep = R.dep
 | 0 => ⟨rfl, rfl⟩
 | i + 1 => tnR_gates R i
theorem put_none (R : Rp) (i k : Nat) (x : Ri) (hk : (R.code.getD i []).length ≤ k) : R.put i k x = R := by
 unfold Rp.put
 rw [List.set_eq_of_length_le hk]
 by_cases h : i < R.code.length
 · rw [show R.code.getD i [] = R.code[i] by simp [h], List.set_getElem_self]
 · rw [List.set_eq_of_length_le (by omega)]
theorem LnA.tn {lo hi : Nat} {W : World} {kc kg : Nat} {K : Nat → Nat} {rv : Value} {R : Rp} {i : Nat} (h : LnA lo hi W kc kg K rv (tnR R i)) (hi2 : i < R.code.length) (hk : (R.code.getD i []).length / 2 < (R.code.getD i []).length) : LnA lo hi (W.setCells (K i) ((R.code.getD i []).length / 2 * 5) tnI.vals) kc kg K rv (tnR R (i + 1)) :=
 h.put i _ tnI (by rw [tnR_len]; exact hi2) (by rw [tnR_row]; exact hk)
theorem tn_none (R : Rp) (i : Nat) (hk : ¬ (R.code.getD i []).length / 2 < (R.code.getD i []).length) : tnR R (i + 1) = tnR R i := put_none _ _ _ _ (by rw [tnR_row]; omega)
theorem tn_is {R : Rp} (h : R.Is) : ∀ i, (tnR R i).Is
 | 0 => h
 | i + 1 => ⟨fun r hr x hx => by
   have ih := tn_is h i
   rcases List.mem_or_eq_of_mem_set hr with q | q
   · exact ih.code r q x hx
   · subst q
     rcases List.mem_or_eq_of_mem_set hx with q | q
     · by_cases hl : i < (tnR R i).code.length
       · rw [show (tnR R i).code.getD i [] = (tnR R i).code[i] by simp [hl]] at q
         exact ih.code _ (List.getElem_mem hl) x q
       · rw [show (tnR R i).code.getD i [] = [] by simp [hl]] at q
         cases q
     · subst q
       exact ⟨⟨by decide, by decide⟩, ⟨by decide, by decide⟩⟩⟩
end Z
end Go.Proofs.YthfphgjjieddjaaGreat


namespace Go.Proofs.YthfphgjjieddjaaGreat
namespace Z
open Go.RowKit
open T (Sep Ob Kp Mf FlIn)

structure Dx where
 pv : Value
 pg : Value
 pm : Value
 dep : Int
 g : Nat
 p : Nat
 r : Nat → Int
 sv : Value
 mv : Value
 iv : Value
 ov_ : Value
 tv : Value
 e : Int
 v : Int
 f : Int
 og : Nat
 op : Nat
def Dx.at (x : Dx) (j : Nat) : Value :=
 if 6 ≤ j ∧ j < 22 then .int .u64 (x.r (j - 6)) else
 match j with
 | 0 => x.pv
 | 1 => x.pg
 | 2 => x.pm
 | 3 => .int .i64 x.dep
 | 4 => .int .i64 x.g
 | 5 => .int .i64 x.p
 | 22 => x.sv
 | 23 => x.mv
 | 24 => x.iv
 | 25 => x.ov_
 | 26 => x.tv
 | 27 => .int .i64 x.e
 | 28 => .int .u64 x.v
 | 29 => .int .i64 x.f
 | 30 => .int .i64 x.og
 | _ => .int .i64 x.op
theorem Dx.reg (x : Dx) (i : Nat) (h : i < 16) : x.at (6 + i) = .int .u64 (x.r i) := by
 unfold Dx.at
 rw [if_pos ⟨by omega, by omega⟩, Nat.add_sub_cancel_left]
structure DBx (w : World) (a : Nat) (x : Dx) : Prop where
 lt : a < w.heap.size
 at_ : ∀ j, j < 32 → w.cell? ⟨a, j, none⟩ = some (x.at j)
 fr : ∀ j, w.frozen? ⟨a, j, none⟩ = false
theorem DBx.block {w w1 : World} {a : Nat} {x : Dx} (h : DBx w a x) (hs : w.heap.size ≤ w1.heap.size) (hb : w1.heap[a]? = w.heap[a]?) : DBx w1 a x :=
 ⟨Nat.lt_of_lt_of_le h.lt hs, fun j q => (T.cell_of_block hb j).trans (h.at_ j q), fun j => (T.frozen_of_block hb j).trans (h.fr j)⟩
theorem DBx.keep {S : Nat → Prop} {w w1 : World} {a : Nat} {x : Dx} (h : DBx w a x) (hk : Kp S w w1) (hn : ¬ S a) : DBx w1 a x := h.block hk.size (hk.block a h.lt hn)
theorem DBx.gr {w w1 : World} {a : Nat} {x : Dx} (h : DBx w a x) (g : Gr w w1) : DBx w1 a x := h.block g.below.size (g.below.block a h.lt)
theorem DBx.set {w : World} {a : Nat} {x x' : Dx} (h : DBx w a x) (i : Nat) (v : Value) (hi : i < 32) (hx : ∀ j, j < 32 → x'.at j = if j = i then v else x.at j) : DBx (w.setCell ⟨a, i, none⟩ v) a x' := by
 refine ⟨by simpa using h.lt, fun j q => ?_, fun j => by simpa using h.fr j⟩
 rw [hx j q]
 by_cases e : j = i
 · rw [if_pos e, e]
   exact cs_same (h.at_ i hi)
 · rw [if_neg e, T.cso (fun _ => Ne.symm e)]
   exact h.at_ j q
def dbOb (a : Nat) (x : Dx) : Ob := ⟨fun k => k = a, fun w => DBx w a x, fun _ h _ q => q ▸ h.lt, fun _ _ _ h hk hd => h.keep hk (hd _ rfl)⟩
theorem dx_cases {P : Nat → Prop} (h0 : P 0) (h1 : P 1) (h2 : P 2) (h3 : P 3) (h4 : P 4) (h5 : P 5) (hr : ∀ i, i < 16 → P (6 + i)) (h22 : P 22) (h23 : P 23) (h24 : P 24) (h25 : P 25) (h26 : P 26) (h27 : P 27) (h28 : P 28) (h29 : P 29) (h30 : P 30) (h31 : P 31) : ∀ j, j < 32 → P j := by
 intro j hj
 by_cases q : 6 ≤ j ∧ j < 22
 · have := hr (j - 6) (by omega)
   rwa [show 6 + (j - 6) = j by omega] at this
 · have hq : j = 0 ∨ j = 1 ∨ j = 2 ∨ j = 3 ∨ j = 4 ∨ j = 5 ∨ j = 22 ∨ j = 23 ∨ j = 24 ∨ j = 25 ∨ j = 26 ∨ j = 27 ∨ j = 28 ∨ j = 29 ∨ j = 30 ∨ j = 31 := by omega
   rcases hq with rfl | rfl | rfl | rfl | rfl | rfl | rfl | rfl | rfl | rfl | rfl | rfl | rfl | rfl | rfl | rfl
   · exact h0
   · exact h1
   · exact h2
   · exact h3
   · exact h4
   · exact h5
   · exact h22
   · exact h23
   · exact h24
   · exact h25
   · exact h26
   · exact h27
   · exact h28
   · exact h29
   · exact h30
   · exact h31
theorem DBx.g_ {w : World} {a : Nat} {x : Dx} (h : DBx w a x) (n : Nat) : DBx (w.setCell ⟨a, 4, none⟩ (.int .i64 n)) a { x with g := n } :=
 h.set 4 _ (by omega) (dx_cases rfl rfl rfl rfl rfl rfl (fun i hi => by rw [Dx.reg _ i hi, if_neg (by omega), Dx.reg _ i hi]) rfl rfl rfl rfl rfl rfl rfl rfl rfl rfl)
theorem DBx.p_ {w : World} {a : Nat} {x : Dx} (h : DBx w a x) (n : Nat) : DBx (w.setCell ⟨a, 5, none⟩ (.int .i64 n)) a { x with p := n } :=
 h.set 5 _ (by omega) (dx_cases rfl rfl rfl rfl rfl rfl (fun i hi => by rw [Dx.reg _ i hi, if_neg (by omega), Dx.reg _ i hi]) rfl rfl rfl rfl rfl rfl rfl rfl rfl rfl)
theorem DBx.sv {w : World} {a : Nat} {x : Dx} (h : DBx w a x) (v : Value) : DBx (w.setCell ⟨a, 22, none⟩ v) a { x with sv := v } :=
 h.set 22 _ (by omega) (dx_cases rfl rfl rfl rfl rfl rfl (fun i hi => by rw [Dx.reg _ i hi, if_neg (by omega), Dx.reg _ i hi]) rfl rfl rfl rfl rfl rfl rfl rfl rfl rfl)
theorem DBx.iv {w : World} {a : Nat} {x : Dx} (h : DBx w a x) (v : Value) : DBx (w.setCell ⟨a, 24, none⟩ v) a { x with iv := v } :=
 h.set 24 _ (by omega) (dx_cases rfl rfl rfl rfl rfl rfl (fun i hi => by rw [Dx.reg _ i hi, if_neg (by omega), Dx.reg _ i hi]) rfl rfl rfl rfl rfl rfl rfl rfl rfl rfl)
theorem DBx.ov_ {w : World} {a : Nat} {x : Dx} (h : DBx w a x) (v : Value) : DBx (w.setCell ⟨a, 25, none⟩ v) a { x with ov_ := v } :=
 h.set 25 _ (by omega) (dx_cases rfl rfl rfl rfl rfl rfl (fun i hi => by rw [Dx.reg _ i hi, if_neg (by omega), Dx.reg _ i hi]) rfl rfl rfl rfl rfl rfl rfl rfl rfl rfl)
theorem DBx.tv {w : World} {a : Nat} {x : Dx} (h : DBx w a x) (v : Value) : DBx (w.setCell ⟨a, 26, none⟩ v) a { x with tv := v } :=
 h.set 26 _ (by omega) (dx_cases rfl rfl rfl rfl rfl rfl (fun i hi => by rw [Dx.reg _ i hi, if_neg (by omega), Dx.reg _ i hi]) rfl rfl rfl rfl rfl rfl rfl rfl rfl rfl)
theorem DBx.e_ {w : World} {a : Nat} {x : Dx} (h : DBx w a x) (n : Int) : DBx (w.setCell ⟨a, 27, none⟩ (.int .i64 n)) a { x with e := n } :=
 h.set 27 _ (by omega) (dx_cases rfl rfl rfl rfl rfl rfl (fun i hi => by rw [Dx.reg _ i hi, if_neg (by omega), Dx.reg _ i hi]) rfl rfl rfl rfl rfl rfl rfl rfl rfl rfl)
theorem DBx.v_ {w : World} {a : Nat} {x : Dx} (h : DBx w a x) (n : Int) : DBx (w.setCell ⟨a, 28, none⟩ (.int .u64 n)) a { x with v := n } :=
 h.set 28 _ (by omega) (dx_cases rfl rfl rfl rfl rfl rfl (fun i hi => by rw [Dx.reg _ i hi, if_neg (by omega), Dx.reg _ i hi]) rfl rfl rfl rfl rfl rfl rfl rfl rfl rfl)
theorem DBx.f_ {w : World} {a : Nat} {x : Dx} (h : DBx w a x) (n : Int) : DBx (w.setCell ⟨a, 29, none⟩ (.int .i64 n)) a { x with f := n } :=
 h.set 29 _ (by omega) (dx_cases rfl rfl rfl rfl rfl rfl (fun i hi => by rw [Dx.reg _ i hi, if_neg (by omega), Dx.reg _ i hi]) rfl rfl rfl rfl rfl rfl rfl rfl rfl rfl)
theorem DBx.og_ {w : World} {a : Nat} {x : Dx} (h : DBx w a x) (n : Nat) : DBx (w.setCell ⟨a, 30, none⟩ (.int .i64 n)) a { x with og := n } :=
 h.set 30 _ (by omega) (dx_cases rfl rfl rfl rfl rfl rfl (fun i hi => by rw [Dx.reg _ i hi, if_neg (by omega), Dx.reg _ i hi]) rfl rfl rfl rfl rfl rfl rfl rfl rfl rfl)
theorem DBx.op_ {w : World} {a : Nat} {x : Dx} (h : DBx w a x) (n : Nat) : DBx (w.setCell ⟨a, 31, none⟩ (.int .i64 n)) a { x with op := n } :=
 h.set 31 _ (by omega) (dx_cases rfl rfl rfl rfl rfl rfl (fun i hi => by rw [Dx.reg _ i hi, if_neg (by omega), Dx.reg _ i hi]) rfl rfl rfl rfl rfl rfl rfl rfl rfl rfl)
theorem DBx.reg {w : World} {a : Nat} {x : Dx} (h : DBx w a x) (i : Nat) (hi : i < 16) (n : Int) : DBx (w.setCell ⟨a, 6 + i, none⟩ (.int .u64 n)) a { x with r := updR x.r i n } :=
 h.set (6 + i) _ (by omega) (dx_cases (by rw [if_neg (by omega)]; rfl) (by rw [if_neg (by omega)]; rfl) (by rw [if_neg (by omega)]; rfl) (by rw [if_neg (by omega)]; rfl) (by rw [if_neg (by omega)]; rfl) (by rw [if_neg (by omega)]; rfl)
   (fun j hj => by
     rw [Dx.reg _ j hj]
     by_cases e : j = i
     · rw [if_pos (by omega)]; show Value.int .u64 (updR x.r i n j) = _; unfold updR; rw [if_pos e]
     · rw [if_neg (by omega), Dx.reg _ j hj]; show Value.int .u64 (updR x.r i n j) = _; unfold updR; rw [if_neg e])
   (by rw [if_neg (by omega)]; rfl) (by rw [if_neg (by omega)]; rfl) (by rw [if_neg (by omega)]; rfl) (by rw [if_neg (by omega)]; rfl) (by rw [if_neg (by omega)]; rfl) (by rw [if_neg (by omega)]; rfl) (by rw [if_neg (by omega)]; rfl) (by rw [if_neg (by omega)]; rfl) (by rw [if_neg (by omega)]; rfl) (by rw [if_neg (by omega)]; rfl))
def DB1 (a : Nat) (x : Dx) (w w' : World) : Prop := DBx w' a x ∧ Kp (fun k => k = a) w w'
def Dx.out5 (x : Dx) (e v f : Int) (g p : Nat) : Dx := { x with e := e, v := v, f := f, og := g, op := p }
def Dx.fin (x : Dx) (e v f : Int) : Dx := x.out5 e v f x.g x.p
def Dx.lay (x : Dx) (i : Nat) (n : Int) : Dx := { x with p := x.p + 1, r := updR x.r i n }
def Dx.next (x : Dx) : Dx := { x with p := x.p + 1 }
theorem DBx.out5 {w : World} {a : Nat} {x : Dx} (h : DBx w a x) (e v f : Int) (g p : Nat) : DBx (((((w.setCell ⟨a, 27, none⟩ (.int .i64 e)).setCell ⟨a, 28, none⟩ (.int .u64 v)).setCell ⟨a, 29, none⟩ (.int .i64 f)).setCell ⟨a, 30, none⟩ (.int .i64 g)).setCell ⟨a, 31, none⟩ (.int .i64 p)) a (x.out5 e v f g p) :=
 ((((h.e_ e).v_ v).f_ f).og_ g).op_ p
end Z
end Go.Proofs.YthfphgjjieddjaaGreat


namespace Go.Proofs.YthfphgjjieddjaaGreat
set_option maxRecDepth 100000
set_option maxHeartbeats 40000000
namespace Z
open Go.RowKit
open T (Sep Ob Kp Mf FlIn)

theorem dend_any (a : Nat) (x : Dx) (e v f : Int) (w : World) (h : DBx w a x) :
   Calls Tryz.prog 41 #[.pointer (some ⟨a, 0, none⟩), .int .i64 e, .int .u64 v, .int .i64 f] w fun r w' => r = .returned (.tuple #[]) ∧ DB1 a (x.fin e v f) w w' := by
 have hd := h.gr ((Gr.refl w).drew)
 have hth : Hz (w.drew.there a 27 5) := Hz.mk (fun j hj => ⟨by rw [hd.at_ (27 + j) (by omega)]; rfl, hd.fr _⟩)
 have hn : Hz (DB1 a (x.fin e v f) w (w.drew.setCells a 27 [Value.int .i64 e, .int .u64 v, .int .i64 f, .int .i64 x.g, .int .i64 x.p])) := Hz.mk ⟨hd.out5 e v f x.g x.p, (Kp.ofGr ((Gr.refl w).drew)).trans (kp_set1 (kp_set1 (kp_set1 (kp_set1 (kp_set1 (Kp.refl _ w.drew) 27 _) 28 _) 29 _) 30 _) 31 _) (fun _ q => .inl q)⟩
 go_enter Tryz.func41, Tryz.ntmps41
 refine wp_region_held_drew (S := (fun W => W.cell? ⟨a, 4, none⟩ = some (.int .i64 x.g) ∧ W.cell? ⟨a, 5, none⟩ = some (.int .i64 x.p))) (by kernel_rfl) (⟨hd.at_ 4 (by omega), hd.at_ 5 (by omega)⟩) (fun hHeld => ?_)
 refine xso 0 ?_ rfl ?_ (xso 1 ?_ rfl ?_ (xso 2 ?_ rfl ?_ (xso 3 ?_ rfl ?_ (xso 4 ?_ rfl ?_ (xso 5 ?_ rfl ?_ (xso 6 ?_ rfl ?_ (xso 7 ?_ rfl ?_ (xso 8 ?_ rfl ?_ (xso 9 ?_ rfl ?_ (xso 10 ?_ rfl ?_ (xso 11 ?_ rfl ?_ (xso 12 ?_ rfl ?_ (xso 13 ?_ rfl ?_ (xso 14 ?_ rfl ?_ ?_))))))))))))))
 iterate 15 (rotate_left; focus ((try simp only [xap]); intro w hSw; (try dsimp only at hSw); go_simp; first | done | with_reducible rfl))
 try simp only [xap]
 refine xrd 15 rfl (fun K hK => ?_)
 rw [if_pos (by rfl)]
 refine wp_store_mid _ _ _ rfl _ _ (List.toArray _) rfl rfl (hth.out) (by kernel_rfl) (by simp [Value.oneCell']) ?_
 refine hK.out _ _ (⟨hn.out.1.at_ 4 (by omega), hn.out.1.at_ 5 (by omega)⟩) (fun hHeld => ?_)
 clear hK K
 try simp only [Act.put]
 refine xdn ?_ _
 clear hHeld hth
 generalize hV : w.drew.setCells a 27 [Value.int .i64 e, .int .u64 v, .int .i64 f, .int .i64 x.g, .int .i64 x.p] = V at *
 clear hV
 go_wp2_with fail
 first | go_end0 | ((try simp only [Exit.inBlock, Exit.then]); refine bodyPost_ret (results_none rfl _ _ _) rfl ?_)
 exact ⟨rfl, hn.out⟩
end Z
end Go.Proofs.YthfphgjjieddjaaGreat
