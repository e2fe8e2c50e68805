import Derived.Laws.AppendOwn
import Derived.Test.YtbichnngepjpnaaGreatP42
import Derived.Test.YtbichnngepjpnaaGreatTNew
/-
  Stage 13, fastvm: copies of rows of methods and of frames.
-/
namespace Go.Proofs.YtbichnngepjpnaaGreat
namespace Z
open Go.RowKit
open T (Sep Ob Kp Mf FlIn boxOb)

set_option maxRecDepth 100000 in
theorem eqs_row (ad : Addr) (n c : Nat) (W : World) : (binOp .eql 88 (.slice (some ad) n c) (.slice none 0 0)).run Tryz.prog W = .ok (.bool false) W := rfl
set_option maxRecDepth 100000 in
theorem eqn_row (n c : Nat) (W : World) : (binOp .eql 88 (.slice none n c) (.slice none 0 0)).run Tryz.prog W = .ok (.bool true) W := rfl
set_option maxRecDepth 100000 in
set_option maxHeartbeats 4000000 in
theorem clone_row (b off n c : Nat) (xs : List Value) (w : World) (hb : b < w.heap.size) (hl : xs.length = n * 1) (hc : ∀ j u, xs[j]? = some u → w.cell? ⟨b, off + j, none⟩ = some u) (h1 : ∀ u ∈ xs, u.oneCell' = true) (hn : n ≤ 2000000) :
    Calls Tryz.prog 35 #[.slice (some ⟨b, off, none⟩) n c] w fun x w' => ∃ v, x = .returned v ∧ w'.ownsRow w.heap.size 90 1 v n xs ∧ Below w.heap.size w w' := by
  have eq0 := eqs_row ⟨b, off, none⟩ n c
  obtain ⟨i0, hi, hz0, hz1, hz2⟩ := T.info_parts' (t := 90) (z := .nilFunc) (s := 1) (b := 8) (by kernel_rfl)
  have hO : (w.alloc (.cells #[] 90)).ownsRow w.heap.size 90 1 (.slice (some ⟨w.heap.size, 0, none⟩) 0 0) 0 [] := ⟨by simp, .inr ⟨w.heap.size, 0, #[], rfl, Nat.le_refl _, (MapKept.heap_alloc w _).1, Nat.le_refl _, by simp [maxLen], by simp, by simp⟩⟩
  have hc2 : ∀ j u, xs[j]? = some u → (w.alloc (.cells #[] 90)).cell? ((⟨b, off, none⟩ : Addr).add j) = some u := fun j u q => by
    rw [addr_addZ]
    exact (T.cell_of_block (((Below.refl _ w).alloc (Nat.le_refl _) _).block b hb) _).trans (hc j u q)
  have hby : (0 + n) * 8 ≤ 140737488355328 := by omega
  replace hO := Hz.mk hO
  replace hc2 := Hz.mk hc2
  replace hc := Hz.mk hc
  replace h1 := Hz.mk h1
  go_enter Tryz.func35, Tryz.ntmps35
  go_wp2_with (at_builtin; refine wpList_append_own_at _ rfl (.tmp 5) (.tmp 6) 88 rfl w.heap.size 90 i0 (.nilFunc) 1 8 Tryz.underlying88 hi hz0 hz1 hz2 rfl (by decide) (.slice (some ⟨w.heap.size, 0, none⟩) 0 0) 0 [] rfl hO.out ⟨b, off, none⟩ n c xs rfl hl hc2.out h1.out (by unfold maxLen; omega) hby (by simp) ?_)
  intro v' w' g1 g2 _ _
  replace g1 := Hz.mk g1
  have g4 : Hz (Below w.heap.size w w') := Hz.mk (Below.trans (((Below.refl _ w).alloc (Nat.le_refl _) _)) (T.Below.of_grown g2 (by simp) (fun k r => by simp [Value.ownBlock] at r; omega)))
  clear g2
  go_wp2_with fail
  go_ret
  exact ⟨_, rfl, g1.out, g4.out⟩
set_option maxRecDepth 100000 in
set_option maxHeartbeats 4000000 in
theorem clnil_row (w : World) : Calls Tryz.prog 35 #[.slice none 0 0] w fun x w' => x = .returned (.slice none 0 0) ∧ w' = w := by
  have eq0 := eqn_row 0 0
  go_enter Tryz.func35, Tryz.ntmps35
  go_wp2_with fail
  go_ret
  exact ⟨rfl, rfl⟩
set_option maxRecDepth 100000 in
theorem eqs_fr (ad : Addr) (n c : Nat) (W : World) : (binOp .eql 70 (.slice (some ad) n c) (.slice none 0 0)).run Tryz.prog W = .ok (.bool false) W := rfl
set_option maxRecDepth 100000 in
theorem eqn_fr (n c : Nat) (W : World) : (binOp .eql 70 (.slice none n c) (.slice none 0 0)).run Tryz.prog W = .ok (.bool true) W := rfl
set_option maxRecDepth 100000 in
set_option maxHeartbeats 4000000 in
theorem clone_fr (b off n c : Nat) (xs : List Value) (w : World) (hb : b < w.heap.size) (hl : xs.length = n * 18) (hc : ∀ j u, xs[j]? = some u → w.cell? ⟨b, off + j, none⟩ = some u) (h1 : ∀ u ∈ xs, u.oneCell' = true) (hn : n ≤ 2000000) :
    Calls Tryz.prog 27 #[.slice (some ⟨b, off, none⟩) n c] w fun x w' => ∃ v, x = .returned v ∧ w'.ownsRow w.heap.size 69 18 v n xs ∧ Below w.heap.size w w' := by
  have eq0 := eqs_fr ⟨b, off, none⟩ n c
  obtain ⟨i0, hi, hz0, hz1, hz2⟩ := T.info_parts' (t := 69) (z := .agg #[.int .i64 0, .int .i64 0, .int .u64 0, .int .u64 0, .int .u64 0, .int .u64 0, .int .u64 0, .int .u64 0, .int .u64 0, .int .u64 0, .int .u64 0, .int .u64 0, .int .u64 0, .int .u64 0, .int .u64 0, .int .u64 0, .int .u64 0, .int .u64 0]) (s := 18) (b := 144) (by kernel_rfl)
  have hO : (w.alloc (.cells #[] 69)).ownsRow w.heap.size 69 18 (.slice (some ⟨w.heap.size, 0, none⟩) 0 0) 0 [] := ⟨by simp, .inr ⟨w.heap.size, 0, #[], rfl, Nat.le_refl _, (MapKept.heap_alloc w _).1, Nat.le_refl _, by simp [maxLen], by simp, by simp⟩⟩
  have hc2 : ∀ j u, xs[j]? = some u → (w.alloc (.cells #[] 69)).cell? ((⟨b, off, none⟩ : Addr).add j) = some u := fun j u q => by
    rw [addr_addZ]
    exact (T.cell_of_block (((Below.refl _ w).alloc (Nat.le_refl _) _).block b hb) _).trans (hc j u q)
  have hby : (0 + n) * 144 ≤ 140737488355328 := by omega
  replace hO := Hz.mk hO
  replace hc2 := Hz.mk hc2
  replace hc := Hz.mk hc
  replace h1 := Hz.mk h1
  go_enter Tryz.func27, Tryz.ntmps27
  go_wp2_with (at_builtin; refine wpList_append_own_at _ rfl (.tmp 5) (.tmp 6) 70 rfl w.heap.size 69 i0 (.agg #[.int .i64 0, .int .i64 0, .int .u64 0, .int .u64 0, .int .u64 0, .int .u64 0, .int .u64 0, .int .u64 0, .int .u64 0, .int .u64 0, .int .u64 0, .int .u64 0, .int .u64 0, .int .u64 0, .int .u64 0, .int .u64 0, .int .u64 0, .int .u64 0]) 18 144 Tryz.underlying70 hi hz0 hz1 hz2 rfl (by decide) (.slice (some ⟨w.heap.size, 0, none⟩) 0 0) 0 [] rfl hO.out ⟨b, off, none⟩ n c xs rfl hl hc2.out h1.out (by unfold maxLen; omega) hby (by simp) ?_)
  intro v' w' g1 g2 _ _
  replace g1 := Hz.mk g1
  have g4 : Hz (Below w.heap.size w w') := Hz.mk (Below.trans (((Below.refl _ w).alloc (Nat.le_refl _) _)) (T.Below.of_grown g2 (by simp) (fun k r => by simp [Value.ownBlock] at r; omega)))
  clear g2
  go_wp2_with fail
  go_ret
  exact ⟨_, rfl, g1.out, g4.out⟩
set_option maxRecDepth 100000 in
set_option maxHeartbeats 4000000 in
theorem clnil_fr (w : World) : Calls Tryz.prog 27 #[.slice none 0 0] w fun x w' => x = .returned (.slice none 0 0) ∧ w' = w := by
  have eq0 := eqn_fr 0 0
  go_enter Tryz.func27, Tryz.ntmps27
  go_wp2_with fail
  go_ret
  exact ⟨rfl, rfl⟩
/-- Rows of methods that lie from a block on: k of them are copied. -/
structure Cpd (W1 wr : World) (g : Nat) (C : List (List Fi)) (k : Nat) (V : Nat → Value) : Prop where
  row : FRow wr g C.length V
  done : ∀ j (_ : j < k) (h2 : j < C.length), ∃ gk c, V j = .slice (some ⟨gk, 0, none⟩) C[j].length c ∧ W1.heap.size ≤ gk ∧ gk ≠ g ∧ gk < wr.heap.size ∧ ∀ i (hi : i < C[j].length), wr.cell? ⟨gk, i, none⟩ = some (methV C[j][i])
  gro : Below W1.heap.size W1 wr
  new : W1.heap.size ≤ g
/-- Rows of methods, where they lie. -/
def CdIn (w : World) (ca : Option Addr) (C : List (List Fi)) : Prop := ∀ k (h : k < C.length), ∃ g gk ck, ca = some ⟨g, 0, none⟩ ∧ g < w.heap.size ∧ w.cell? ⟨g, k, none⟩ = some (.slice (some ⟨gk, 0, none⟩) C[k].length ck) ∧ gk < w.heap.size ∧ ∀ j (hj : j < C[k].length), w.cell? ⟨gk, j, none⟩ = some (methV C[k][j])
theorem CdIn.below {w W : World} {ca : Option Addr} {C : List (List Fi)} (h : CdIn w ca C) (q : Below w.heap.size w W) : CdIn W ca C := fun k hk => by
  obtain ⟨g, gk, ck, e1, e2, e3, e4, e5⟩ := h k hk
  exact ⟨g, gk, ck, e1, Nat.lt_of_lt_of_le e2 q.size, (T.cell_of_block (q.block g e2) _).trans e3, Nat.lt_of_lt_of_le e4 q.size, fun j hj => (T.cell_of_block (q.block gk e4) _).trans (e5 j hj)⟩
theorem FRow.bel {w w1 : World} {g n : Nat} {V : Nat → Value} (h : FRow w g n V) (q : Below w.heap.size w w1) : FRow w1 g n V :=
  ⟨Nat.lt_of_lt_of_le h.lt q.size, fun j hj => (T.cell_of_block (q.block g h.lt) j).trans (h.at_ j hj), fun j => (T.frozen_of_block (q.block g h.lt) j).trans (h.fr j)⟩
theorem Cpd.next {W1 wr w1 : World} {g k gn c : Nat} {C : List (List Fi)} {V : Nat → Value} (h : Cpd W1 wr g C k V) (hk : k < C.length) (q : Below wr.heap.size wr w1) (hn : wr.heap.size ≤ gn) (hlt : gn < w1.heap.size) (hc : ∀ i (hi : i < C[k].length), w1.cell? ⟨gn, i, none⟩ = some (methV C[k][i])) :
    Cpd W1 (w1.setCell ⟨g, k, none⟩ (.slice (some ⟨gn, 0, none⟩) C[k].length c)) g C (k + 1) (updF V k (.slice (some ⟨gn, 0, none⟩) C[k].length c)) := by
  have hg := h.row.lt
  have hne : gn ≠ g := by omega
  have hB : Below W1.heap.size W1 w1 := h.gro.trans (q.mono h.gro.size)
  refine ⟨(h.row.bel q).set k _ hk, fun j hj h2 => ?_, hB.setCell (by show W1.heap.size ≤ g; exact h.new) _, h.new⟩
  by_cases e : j = k
  · subst e
    refine ⟨gn, c, by unfold updF; rw [if_pos rfl], by have := h.gro.size; omega, hne, by simpa using hlt, fun i hi => ?_⟩
    rw [T.cso (fun e => absurd e.symm hne)]
    exact hc i hi
  · obtain ⟨gk, ck, e1, e2, e3, e4, e5⟩ := h.done j (by omega) h2
    refine ⟨gk, ck, by unfold updF; rw [if_neg e]; exact e1, e2, e3, by have := q.size; simp; omega, fun i hi => ?_⟩
    rw [T.cso (fun e => absurd e.symm e3), T.cell_of_block (q.block gk e4)]
    exact e5 i hi
theorem meth_one (r : List Fi) : ∀ u ∈ r.map methV, u.oneCell' = true := fun u hu => by
  obtain ⟨i, _, rfl⟩ := List.mem_map.1 hu
  rfl
set_option maxRecDepth 100000 in
set_option maxHeartbeats 8000000 in
theorem copied_ok (C : List (List Fi)) (ca : Option Addr) (cc : Nat) (w : World) (hC : CdIn w ca C) (hl : C.length ≤ 1000) (hr : ∀ k (h : k < C.length), 0 < C[k].length ∧ C[k].length ≤ 1000) :
    Calls Tryz.prog 23 #[.slice ca C.length cc] w fun x w' => ∃ V, x = .returned (.slice (some ⟨w.heap.size, 0, none⟩) C.length C.length) ∧ Cpd w w' w.heap.size C C.length V := by
  have hmk := make_rowZ (t := 66) (e := 88) (z := .slice none 0 0) (b := 24) Tryz.underlying66 (by kernel_rfl) rfl (by decide) C.length (by omega) w
  have h0 : Hz (∃ V, Cpd w (w.alloc (.cells (Array.replicate C.length (.slice none 0 0)) 88)) w.heap.size C 0 V) := Hz.mk ⟨_, FRow.new w C.length (.slice none 0 0) 88, fun j hj => absurd hj (Nat.not_lt_zero j), (Below.refl _ w).alloc (Nat.le_refl _) _, Nat.le_refl _⟩
  replace hC := Hz.mk hC
  replace hr := Hz.mk hr
  go_enter Tryz.func23, Tryz.ntmps23
  go_upto_region 3 with fail
  clear hmk
  go_loopw [11] (fun x wr => ∃ k : Nat, x = .int .i64 k ∧ k ≤ C.length ∧ Hz (∃ V, Cpd w wr w.heap.size C k V)) (fun x _ => C.length - (intOf x).toNat)
  case atStart => exact ⟨0, rfl, Nat.zero_le _, h0⟩
  case round =>
    clear h0
    obtain ⟨k, rfl, hkl, hV⟩ := hrel
    by_cases hk : k < C.length
    · have hki : (k : Int) < (C.length : Int) := by omega
      obtain ⟨V, hV⟩ := hV.out
      obtain ⟨g, gk, ck, e1, e2, e3, e4, e5⟩ := (hC.out.below hV.gro) k hk
      subst e1
      have hrk := hr.out k hk
      have hcl := Hz.mk (clone_row gk 0 C[k].length ck (C[k].map methV) wr e4 (by simp) (fun j u q => by
        have hj : j < C[k].length := by have := (List.getElem?_eq_some_iff.1 q).1; simpa using this
        rw [Nat.zero_add, e5 j hj, ← q]
        simp [hj]) (meth_one _) (by omega))
      have c1 : wr.cell? ⟨w.heap.size, k, none⟩ = some (V k) := hV.row.at_ k hk
      have f1 := hV.row.fr k
      replace hV := Hz.mk hV
      clear e5
      go_wp2_with fail
      refine hcl.out.mono ?_
      rintro r w1 ⟨v, rfl, h1, h2⟩
      obtain ⟨gn, cn, rfl, h3, h4⟩ := own_at h1 hrk.1
      have h5 := (h1.lt gn rfl).1
      have hnx := Hz.mk (hV.out.next (gn := gn) (c := cn) hk h2 h5 h3 (fun i hi => h4 i _ (by simp [hi])))
      have c2 : w1.cell? ⟨w.heap.size, k, none⟩ = some (V k) := (T.cell_of_block (h2.block _ hV.out.row.lt) _).trans c1
      have f2 : w1.frozen? ⟨w.heap.size, k, none⟩ = false := (T.frozen_of_block (h2.block _ hV.out.row.lt) _).trans f1
      have hlt : w.heap.size < w1.heap.size := Nat.lt_of_lt_of_le hV.out.row.lt h2.size
      clear hcl h1 h2 h4 c1 f1 e3 hV
      go_wp2_with fail
      refine And.intro (Exists.intro (k + 1) ⟨?_, hk, Hz.mk ⟨_, hnx.out⟩⟩) ?_
      · first | rfl | (rw [show wrap64 ((k : Int) + 1) = ((k + 1 : Nat) : Int) by unfold wrap64; omega])
      · first | (simp [intOf]; omega) | (rw [show wrap64 ((k : Int) + 1) = ((k + 1 : Nat) : Int) by unfold wrap64; omega]; simp [intOf]; omega)
    · have hki : ¬ (k : Int) < (C.length : Int) := by omega
      obtain rfl : k = C.length := by omega
      go_wp2_with fail
      go_ret
      obtain ⟨V, hV⟩ := hV.out
      exact ⟨rfl, V, hV⟩
end Z
end Go.Proofs.YtbichnngepjpnaaGreat


/-
  Stage 6, tagmem: Tags; the document's first example.
-/
namespace Go.Proofs.YtbichnngepjpnaaGreat
namespace T
open Go.RowKit

def exV : Vl := ⟨true, 0, ⟨0, 9, 258, 0, 0⟩⟩
theorem exLoad : ldV (scB (fun _ => 0) 32 exV) 33 1 = 1 ∧ ldE 33 1 = 0 ∧ lcE 32 = 0 := by decide
end T
end Go.Proofs.YtbichnngepjpnaaGreat


/-
  Stage 6, tagmem: a memory with tags and one without, written to alike.
-/
namespace Go.Proofs.YtbichnngepjpnaaGreat
namespace T
open Go.RowKit

structure Two (S : Nat → Prop) (w : World) (a f : Nat) (b1 b2 : Nat → UInt8) (t : Nat → Option Cp) : Prop where
  go : ∃ P F, TgIn P w a b1 t ∧ FlIn F w f b2 ∧ (∀ k, P k → ¬ F k) ∧ ∀ k, S k ↔ P k ∨ F k
theorem Two.lt {S : Nat → Prop} {w : World} {a f : Nat} {b1 b2 : Nat → UInt8} {t : Nat → Option Cp} (h : Two S w a f b1 b2 t) : ∀ k, S k → k < w.heap.size := by
  obtain ⟨P, F, h1, h2, h3, h4⟩ := h.go
  intro k q
  rcases (h4 k).1 q with r | r
  · exact h1.lt k r
  · exact h2.lt k r
theorem Two.keep {S S1 : Nat → Prop} {w w' : World} {a f : Nat} {b1 b2 : Nat → UInt8} {t : Nat → Option Cp} (h : Two S w a f b1 b2 t) (hk : Kp S1 w w') (hd : ∀ k, S k → ¬ S1 k) : Two S w' a f b1 b2 t := by
  obtain ⟨P, F, h1, h2, h3, h4⟩ := h.go
  exact ⟨P, F, h1.keep hk (fun k q => hd k ((h4 k).2 (.inl q))), h2.keep hk (fun k q => hd k ((h4 k).2 (.inr q))), h3, h4⟩
theorem Two.gr {S : Nat → Prop} {w w' : World} {a f : Nat} {b1 b2 : Nat → UInt8} {t : Nat → Option Cp} (h : Two S w a f b1 b2 t) (hb : Below w.heap.size w w') : Two S w' a f b1 b2 t := h.keep (S1 := fun _ => False) (Kp.of_below hb) (fun _ _ q => q)
theorem Two.onT {S : Nat → Prop} {w : World} {a f : Nat} {b1 b2 b1' : Nat → UInt8} {t t' : Nat → Option Cp} (h : Two S w a f b1 b2 t) {fn : Nat} {args : Array Value} {r : Ending}
    (hc : ∀ P, TgIn P w a b1 t → Calls Tryz.prog fn args w fun x w' => x = r ∧ ∃ P', TgIn P' w' a b1' t' ∧ Mf P P' w w') : Calls Tryz.prog fn args w fun x w' => x = r ∧ ∃ S', Two S' w' a f b1' b2 t' ∧ Mf S S' w w' := by
  obtain ⟨P, F, h1, h2, h3, h4⟩ := h.go
  refine (hc P h1).mono ?_
  rintro x w' ⟨rfl, P', g1, g2⟩
  refine ⟨rfl, fun k => P' k ∨ F k, ⟨P', F, g1, h2.keep g2.kp (fun k q r => h3 k r q), fun k q r => ?_, fun k => Iff.rfl⟩, fun k q => ?_, fun k q => ?_, g2.kp.mono (fun k q => .inl ((h4 k).2 (.inl q)))⟩
  · rcases g2.new k q with s | s
    · exact h3 k s r
    · have := h2.lt k r; omega
  · rcases (h4 k).1 q with s | s
    · exact .inl (g2.up k s)
    · exact .inr s
  · rcases q with q | q
    · rcases g2.new k q with s | s
      · exact .inl ((h4 k).2 (.inl s))
      · exact .inr s
    · exact .inl ((h4 k).2 (.inr q))
theorem Two.onF {S : Nat → Prop} {w : World} {a f : Nat} {b1 b2 b2' : Nat → UInt8} {t : Nat → Option Cp} (h : Two S w a f b1 b2 t) {fn : Nat} {args : Array Value} {r : Ending}
    (hc : ∀ P, FlIn P w f b2 → Calls Tryz.prog fn args w fun x w' => x = r ∧ ∃ P', FlIn P' w' f b2' ∧ Mf P P' w w') : Calls Tryz.prog fn args w fun x w' => x = r ∧ ∃ S', Two S' w' a f b1 b2' t ∧ Mf S S' w w' := by
  obtain ⟨P, F, h1, h2, h3, h4⟩ := h.go
  refine (hc F h2).mono ?_
  rintro x w' ⟨rfl, F', g1, g2⟩
  refine ⟨rfl, fun k => P k ∨ F' k, ⟨P, F', h1.keep g2.kp (fun k q r => h3 k q r), g1, fun k q r => ?_, fun k => Iff.rfl⟩, fun k q => ?_, fun k q => ?_, g2.kp.mono (fun k q => .inl ((h4 k).2 (.inr q)))⟩
  · rcases g2.new k r with s | s
    · exact h3 k q s
    · have := h1.lt k q; omega
  · rcases (h4 k).1 q with s | s
    · exact .inl s
    · exact .inr (g2.up k s)
  · rcases q with q | q
    · exact .inl ((h4 k).2 (.inl q))
    · rcases g2.new k q with s | s
      · exact .inl ((h4 k).2 (.inr s))
      · exact .inr s
theorem Two.tg {S : Nat → Prop} {w : World} {a f : Nat} {b1 b2 : Nat → UInt8} {t : Nat → Option Cp} (h : Two S w a f b1 b2 t) : ∃ P, TgIn P w a b1 t ∧ ∀ k, P k → S k := by
  obtain ⟨P, F, h1, h2, h3, h4⟩ := h.go
  exact ⟨P, h1, fun k q => (h4 k).2 (.inl q)⟩
theorem Two.fl {S : Nat → Prop} {w : World} {a f : Nat} {b1 b2 : Nat → UInt8} {t : Nat → Option Cp} (h : Two S w a f b1 b2 t) : ∃ P, FlIn P w f b2 ∧ ∀ k, P k → S k := by
  obtain ⟨P, F, h1, h2, h3, h4⟩ := h.go
  exact ⟨F, h2, fun k q => (h4 k).2 (.inr q)⟩
/-- Which of n things a raw number speaks of. -/
def pk (c : Int) (n : Nat) : Nat := ((if c < 0 then -(c + 1) else c) % n).toNat
theorem pk_lt (c : Int) (n : Nat) (h : 0 < n) : pk c n < n := by
  unfold pk
  have := Int.emod_lt_of_pos (if c < 0 then -(c + 1) else c) (show (0 : Int) < n by omega)
  have := Int.emod_nonneg (if c < 0 then -(c + 1) else c) (show (n : Int) ≠ 0 by omega)
  omega
def I64 (x : Int) : Prop := -9223372036854775808 ≤ x ∧ x < 9223372036854775808
def U64 (x : Int) : Prop := 0 ≤ x ∧ x < 18446744073709551616
end T
end Go.Proofs.YtbichnngepjpnaaGreat
