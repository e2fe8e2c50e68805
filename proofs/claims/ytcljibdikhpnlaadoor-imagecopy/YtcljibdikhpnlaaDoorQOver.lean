import Derived.Test.YtcljibdikhpnlaaDoorQLentS
import Derived.BigFrame
/-
  Programs that are lent: over: their owner writes over them; nothing else is written.
-/
namespace Go.Proofs.YtcljibdikhpnlaaDoor
namespace Q
open Go.RowKit

theorem below_gr {w W : World} {B : Nat} (g : Gr w W) (hB : B ≤ w.heap.size) : Below B w W := ⟨g.below.os, g.below.tape, g.below.output, g.below.size, fun k hk => g.below.block k (by omega)⟩
theorem below_sets {w W : World} {B : Nat} (h : Below B w W) (b : Nat) (hb : B ≤ b) : ∀ (vs : List Value) (o : Nat), Below B w (W.setCells b o vs) := fun vs => by
  induction vs generalizing W with
  | nil => exact fun _ => h
  | cons v r ih => exact fun o => ih (h.setCell (p := ⟨b, o, none⟩) hb v) (o + 1)
/-- Only blocks of 'S' have been written since 'W0'. -/
structure Ov (B : Nat) (w0 W0 : World) (S : Nat → Prop) (W : World) : Prop where
  gr : Below B w0 W
  keep : ∀ b, ¬ S b → W.heap[b]? = W0.heap[b]?
  there : ∀ b o n, W0.there b o n → W.there b o n
theorem Ov.refl {B : Nat} {w0 W0 : World} {S : Nat → Prop} (h : Below B w0 W0) : Ov B w0 W0 S W0 := ⟨h, fun _ _ => rfl, fun _ _ _ h => h⟩
theorem Ov.sets {B : Nat} {w0 W0 : World} {S : Nat → Prop} {W : World} (h : Ov B w0 W0 S W) (b o : Nat) (vs : List Value) (hS : S b) (hb : B ≤ b) : Ov B w0 W0 S (W.setCells b o vs) :=
  ⟨below_sets h.gr b hb vs o, fun c hc => by rw [setCells_block b c (fun e => hc (e ▸ hS))]; exact h.keep c hc, fun c p n q => World.there_setCells (h.there c p n q) b o vs⟩
theorem Ov.at_ {B : Nat} {w0 W0 : World} {S : Nat → Prop} {W : World} (h : Ov B w0 W0 S W) {k : Nat} {cs : Array Value} (hA : At W0 k cs) (hk : ¬ S k) : At W k cs := by
  have e := h.keep k hk
  refine ⟨?_, fun i => by rw [World.cell?_of_block (a := ⟨k, i, none⟩) e]; exact hA.2.1 i, fun i => by rw [World.frozen?_of_block (a := ⟨k, i, none⟩) e]; exact hA.2.2 i⟩
  have h1 : k < W0.heap.size := hA.1
  rw [Array.getElem?_eq_getElem h1] at e
  exact (Array.getElem?_eq_some_iff.1 e).1
theorem there_one {W : World} {g n o : Nat} (h : W.there g 0 n) (ho : o < n) : ∃ y, W.cell? ⟨g, o, none⟩ = some y ∧ W.frozen? ⟨g, o, none⟩ = false := by
  have q := h o ho
  rw [Nat.zero_add] at q
  obtain ⟨y, hy⟩ := Option.isSome_iff_exists.1 q.1
  exact ⟨y, hy, q.2⟩
theorem there_mid {W : World} {g n o k : Nat} (h : W.there g 0 n) (ho : o + k ≤ n) : W.there g o k := fun j hj => by
  have q := h (o + j) (by omega)
  rw [Nat.zero_add] at q
  exact q
theorem el_lt {k n s : Nat} (h : k < n) (j : Nat) (hj : j < s) : k * s + j < n * s := by
  have : (k + 1) * s ≤ n * s := Nat.mul_le_mul_right s h
  rw [Nat.succ_mul] at this
  omega
theorem el_le {k n s : Nat} (h : k < n) : k * s + s ≤ n * s := by
  have : (k + 1) * s ≤ n * s := Nat.mul_le_mul_right s h
  rw [Nat.succ_mul] at this
  exact this
theorem next_wO {k n : Nat} (h : k < n) (hn : n ≤ 281474976710648) : wrap64 ((k : Int) + 1) = ((k + 1 : Nat) : Int) := by unfold wrap64; omega
theorem next_mO {k n : Nat} (h : k < n) : n - (intOf (.int .i64 ((k + 1 : Nat) : Int))).toNat < n - (intOf (.int .i64 (k : Int))).toNat := by simp [intOf]; omega
set_option maxRecDepth 100000 in
set_option maxHeartbeats 2000000 in
theorem markT_any (B : Nat) (w0 W0 w : World) (S : Nat → Prop) (g n cap : Nat) (h : Ov B w0 W0 S w) (hS : S g) (hg : B ≤ g) (ht : W0.there g 0 (n * 8)) (hn : n ≤ 281474976710648) : Calls Tryd.prog 16 #[.slice (some ⟨g, 0, none⟩) n cap] w fun x w' => x = .returned (.tuple #[]) ∧ Ov B w0 W0 S w' ∧ ∀ b, b ≠ g → w'.heap[b]? = w.heap[b]? := by
  replace h := Hid.mk h
  replace ht := Hid.mk ht
  replace hS := Hid.mk hS
  go_enter Tryd.func16, Tryd.ntmps16
  go_upto_region 1 with fail
  go_loopw [2] (fun x wr => ∃ i : Nat, x = .int .i64 i ∧ i ≤ n ∧ Hid (Ov B w0 W0 S wr ∧ ∀ b, b ≠ g → wr.heap[b]? = w.heap[b]?)) (fun x _ => n - (intOf x).toNat)
  case atStart => exact ⟨0, rfl, Nat.zero_le _, Hid.mk ⟨h.out, fun _ _ => rfl⟩⟩
  case round =>
    clear h
    obtain ⟨i, rfl, hi, hI⟩ := hrel
    by_cases hlt : i < n
    · have hi1 : (i : Int) < (n : Int) := Int.ofNat_lt.2 hlt
      obtain ⟨y, c1, f1⟩ := there_one (hI.out.1.there _ _ _ ht.out) (el_lt hlt 7 (by decide))
      have hN := Hid.mk (And.intro (hI.out.1.sets g (i * 8 + 7) [.int .u64 77] hS.out hg) (fun b (hb : b ≠ g) => (setCells_block g b (Ne.symm hb) [.int .u64 77] (i * 8 + 7) wr).trans (hI.out.2 b hb)))
      simp only [World.setCells] at hN
      clear hI
      go_wp2_with fail
      refine ⟨⟨i + 1, ?_, hlt, hN⟩, ?_⟩
      · first | rfl | rw [next_wO hlt hn] | go_num
      · first | exact next_mO hlt | (rw [next_wO hlt hn]; exact next_mO hlt)
    · have hi1 : ¬ (i : Int) < (n : Int) := fun q => hlt (Int.ofNat_lt.1 q)
      go_wp2_with fail
      simp [bodyPost, results, Tryd.results16, go_sem]
      exact hI.out
theorem list_there {α : Type} {vals : α → List Value} {M : α} {k kk : Nat} {W : World} {L : List α} {s : Sl} (hv : ∀ x, (vals x).length = k) (h : LsOk vals M kk W L s) {g : Nat} (hg : s.a = some ⟨g, 0, none⟩) : s = ⟨some ⟨g, 0, none⟩, L.length, L.length + 8⟩ ∧ W.there g 0 (L.length * k) := by
  obtain ⟨g', rfl, _, hA⟩ := h
  cases hg
  refine ⟨rfl, At.there hA 0 _ ?_⟩
  rw [row_len (pre := []) hv]
  unfold marked
  rw [List.length_append, List.length_replicate, Nat.add_mul]
  simp
theorem rlist {kk kr kc kg lo hi : Nat} {W : World} {m : PImg} {lr : List RgV} {lc : List CpV} {lg : List GtV} (h : LeIn kk kr kc kg W m lr lc lg) (hS : LeSep lo kr kc kg hi m lr lc lg) (i : Nat) (hi' : i < m.regs.length) : ∃ v g, lr[i]? = some v ∧ v.s = ⟨some ⟨g, 0, none⟩, m.regs[i].slots.length, m.regs[i].slots.length + 8⟩ ∧ kr < g ∧ g < kc ∧ W.there g 0 (m.regs[i].slots.length * 8) := by
  obtain ⟨v, hv, _, _, _, hok⟩ := (h.rd i (by omega)).1 hi'
  obtain ⟨g, e, h1, h2⟩ := hS.r i hi' v hv
  obtain ⟨q1, q2⟩ := list_there slt_len hok e
  exact ⟨v, g, hv, q1, h1, h2, q2⟩
theorem clist {kk kr kc kg lo hi : Nat} {W : World} {m : PImg} {lr : List RgV} {lc : List CpV} {lg : List GtV} (h : LeIn kk kr kc kg W m lr lc lg) (hS : LeSep lo kr kc kg hi m lr lc lg) (i : Nat) (hi' : i < m.comps.length) : ∃ v g g', lc[i]? = some v ∧ v.r = ⟨some ⟨g, 0, none⟩, m.comps[i].roots.length, m.comps[i].roots.length + 8⟩ ∧ kc < g ∧ g < kg ∧ W.there g 0 (m.comps[i].roots.length * 6) ∧ v.k = ⟨some ⟨g', 0, none⟩, m.comps[i].code.length, m.comps[i].code.length + 8⟩ ∧ kc < g' ∧ g' < kg ∧ W.there g' 0 (m.comps[i].code.length * 5) := by
  obtain ⟨v, hv, hok⟩ := (h.cd i (by omega)).1 hi'
  obtain ⟨g, e, h1, h2⟩ := hS.cs.1 i hi' v hv
  obtain ⟨g', e', h1', h2'⟩ := hS.cs.2 i hi' v hv
  obtain ⟨q1, q2⟩ := list_there rot_len hok.1 e
  obtain ⟨q1', q2'⟩ := list_there ins_len hok.2 e'
  exact ⟨v, g, g', hv, q1, h1, h2, q2, q1', h1', h2', q2'⟩
theorem glist {kk kr kc kg lo hi : Nat} {W : World} {m : PImg} {lr : List RgV} {lc : List CpV} {lg : List GtV} (h : LeIn kk kr kc kg W m lr lc lg) (hS : LeSep lo kr kc kg hi m lr lc lg) (i : Nat) (hi' : i < m.gates.length) : ∃ v g g', lg[i]? = some v ∧ v.x = ⟨some ⟨g, 0, none⟩, m.gates[i].args.length, m.gates[i].args.length + 8⟩ ∧ kg < g ∧ W.there g 0 (m.gates[i].args.length * 7) ∧ v.y = ⟨some ⟨g', 0, none⟩, m.gates[i].res.length, m.gates[i].res.length + 8⟩ ∧ kg < g' ∧ W.there g' 0 (m.gates[i].res.length * 7) := by
  obtain ⟨v, hv, _, _, hx, hy⟩ := (h.gd i (by omega)).1 hi'
  obtain ⟨g, e, h1, h2⟩ := hS.g.1 i hi' v hv
  obtain ⟨g', e', h1', h2'⟩ := hS.g.2 i hi' v hv
  obtain ⟨q1, q2⟩ := list_there typ_len hx e
  obtain ⟨q1', q2'⟩ := list_there typ_len hy e'
  exact ⟨v, g, g', hv, q1, h1, q2, q1', h1', q2'⟩
theorem glt {kk kr kc kg : Nat} {W : World} {m : PImg} {lr : List RgV} {lc : List CpV} {lg : List GtV} (h : LeIn kk kr kc kg W m lr lc lg) (i : Nat) (hi' : i < m.gates.length) (v : GtV) (hv : lg[i]? = some v) : (∀ g, v.x.a = some ⟨g, 0, none⟩ → g < W.heap.size) ∧ ∀ g, v.y.a = some ⟨g, 0, none⟩ → g < W.heap.size := by
  obtain ⟨v', hv', _, _, hx, hy⟩ := (h.gd i (by omega)).1 hi'
  rw [hv] at hv'
  cases hv'
  obtain ⟨p, e1, _, A1⟩ := hx
  obtain ⟨q, e2, _, A2⟩ := hy
  refine ⟨fun g e => ?_, fun g e => ?_⟩
  · rw [e1] at e; cases e; exact A1.1
  · rw [e2] at e; cases e; exact A2.1
theorem At.same {W W' : World} {k : Nat} {cs : Array Value} (h : At W k cs) (e : W'.heap[k]? = W.heap[k]?) : At W' k cs := by
  refine ⟨?_, fun i => by rw [World.cell?_of_block (a := ⟨k, i, none⟩) e]; exact h.2.1 i, fun i => by rw [World.frozen?_of_block (a := ⟨k, i, none⟩) e]; exact h.2.2 i⟩
  rw [Array.getElem?_eq_getElem h.1] at e
  exact (Array.getElem?_eq_some_iff.1 e).1
/-- A row whose first ones are written over. -/
structure Rst {β : Type} (vals : β → List Value) (W : World) (k : Nat) (lr l : List β) (i : Nat) : Prop where
  at_ : At W k (rowV [] vals l).toArray
  len : l.length = lr.length
  rest : ∀ j, i ≤ j → l[j]? = lr[j]?
theorem Rst.next {β : Type} {vals : β → List Value} {W : World} {k s : Nat} {lr l : List β} {i : Nat} (hv : ∀ x, (vals x).length = s) (h : Rst vals W k lr l i) (hi : i < lr.length) (v : β) : Rst vals (W.setCells k (i * s) (vals v)) k lr (l.set i v) (i + 1) :=
  ⟨h.at_.setElem hv i (by rw [h.len]; exact hi) v (i * s) (by simp), by rw [List.length_set]; exact h.len, fun j hj => by rw [List.getElem?_set_ne (by omega)]; exact h.rest j (by omega)⟩
theorem Rst.same {β : Type} {vals : β → List Value} {W W' : World} {k : Nat} {lr l : List β} {i : Nat} (h : Rst vals W k lr l i) (e : W'.heap[k]? = W.heap[k]?) : Rst vals W' k lr l i := ⟨At.same h.at_ e, h.len, h.rest⟩
theorem Rst.cell {β : Type} {vals : β → List Value} {W : World} {k s : Nat} {lr l : List β} {i : Nat} (hv : ∀ x, (vals x).length = s) (h : Rst vals W k lr l i) {v : β} (e : lr[i]? = some v) : W.rangeAt k (i * s) (vals v) := elem_atL hv h.at_ i v ((h.rest i (Nat.le_refl _)).trans e)
end Q
end Go.Proofs.YtcljibdikhpnlaaDoor
