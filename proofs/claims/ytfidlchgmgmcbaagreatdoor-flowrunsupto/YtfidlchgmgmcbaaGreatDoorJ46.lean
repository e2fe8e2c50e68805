import Derived.Test.YtfidlchgmgmcbaaGreatDoorJ45
import Derived.Deep.AppendLies
import Derived.Deep.AppendSrc
import Derived.Laws.EntriesVeiled
namespace Go.Proofs.YtfidlchgmgmcbaaGreatDoor
namespace F
open Go.RowKit
open T

theorem addr_add (b off k : Nat) : (⟨b, off, none⟩ : Addr).add k = ⟨b, off + k, none⟩ := by by_cases h : k = 0 <;> simp [Addr.add, h]
def IOwn (w : World) (base : Nat) (v : Value) (L : List Int) : Prop := w.ownsRow base 3 1 v L.length (L.map (Value.int .i64))
theorem wpList_append_int {ops : Array Oper} {rest : List Oper} {o : Oper} {a : Act} {Q : Exit → Act → World → Prop} {w : World} (hgd : o.guard = none) (s x : Operand)
   (ho : o.op = .call { callee := .builtin .append, args := #[s, x], argTypes := #[58, 58] })
   (base : Nat) (v : Value) (L : List Int) (y : Int) (hs : a.eval s = v) (hL : IOwn w base v L)
   (X : Nat) (hx : a.eval x = .slice (some ⟨X, 0, none⟩) 1 1) (hX : At w X #[.int .i64 y]) (hlen : L.length ≤ 8000000) (hbase : base ≤ w.heap.size)
   (h : ∀ g cap w', IOwn w' base (.slice (some ⟨g, 0, none⟩) (L.length + 1) cap) (L ++ [y]) → w.grownBy w' v.ownBlock → (v.ownBlock = some g ∨ g = w.heap.size) → g < w'.heap.size → wpList Tryz.prog ops Q rest (a.put o.dst (.slice (some ⟨g, 0, none⟩) (L.length + 1) cap)) w') :
   wpList Tryz.prog ops Q (o :: rest) a w := by
 obtain ⟨i0, hi, hz0, hz1, hz2⟩ := info_parts' (t := 3) (z := .int .i64 0) (s := 1) (b := 8) (by kernel_rfl)
 have hn : ∀ j u, [Value.int .i64 y][j]? = some u → w.cell? ((⟨X, 0, none⟩ : Addr).add j) = some u := by
   intro j u hj
   rw [addr_add, hX.2.1]
   simpa using hj
 refine wpList_append_lies _ hgd s x 58 ho base 3 i0 (.int .i64 0) 1 8 Tryz.underlying58 hi hz0 hz1 hz2 rfl (by decide) v L.length (L.map (Value.int .i64)) hs hL ⟨X, 0, none⟩ 1 1 [.int .i64 y] hx rfl hn (by simp [Value.oneCell']) (by decide) (by unfold maxLen; omega) (by omega) hbase _ rfl ?_
 intro g cap w' h1 h2 h3 h4
 exact h g cap w' (by unfold IOwn; rw [List.length_append, List.map_append]; exact h1) h2 h3 h4
structure CP where
 lo : Nat
 bw : Nat
 bs : Nat
 bc : Nat
 bk : Nat
 X : Nat
 cc : Nat
 ca : Option Addr
def CP.fv (p : CP) : Value := .func (.func 56) #[] #[.pointer (some ⟨p.bw, 0, none⟩), .pointer (some ⟨p.bs, 0, none⟩), .pointer (some ⟨p.bc, 0, none⟩), .pointer (some ⟨p.bk, 0, none⟩)]
structure CS (p : CP) (L : List Ins) (w : World) (v : Value) (s : Nat → Bool) (W : List Int) : Prop where
 iw : At w p.bw #[v]
 row : IOwn w p.lo v W
 is_ : At w p.bs #[.slice (some ⟨p.X, 0, none⟩) ((L.length + 63) / 64) ((L.length + 63) / 64), .int .i64 L.length]
 ic : At w p.bc #[.slice p.ca L.length p.cc]
 ik : At w p.bk #[p.fv]
 st : SIn w p.X L.length s
 co : LIn p.lo w p.ca L
 ne : p.bw ≠ p.bs ∧ p.bw ≠ p.bc ∧ p.bw ≠ p.bk ∧ p.bw ≠ p.X ∧ p.X ≠ p.bs ∧ p.X ≠ p.bc ∧ p.X ≠ p.bk
 nv : ∀ g, v.ownBlock = some g → g ≠ p.bw ∧ g ≠ p.bs ∧ g ≠ p.bc ∧ g ≠ p.bk ∧ g ≠ p.X
 lo : p.lo ≤ p.X ∧ p.lo ≤ p.bw ∧ p.lo ≤ w.heap.size
theorem at_kp {S : Nat → Prop} {w w1 : World} {k : Nat} {cs : Array Value} (h : At w k cs) (hb : Kp S w w1) (hk : ¬ S k) : At w1 k cs :=
 ⟨Nat.lt_of_lt_of_le h.1 hb.size, fun o => (cell_of_block (hb.block k h.1 hk) o).trans (h.2.1 o), fun o => (frozen_of_block (hb.block k h.1 hk) o).trans (h.2.2 o)⟩
theorem own_kp {S : Nat → Prop} {w w1 : World} {base e size n : Nat} {v : Value} {xs : List Value} (h : w.ownsRow base e size v n xs) (hb : Kp S w w1) (hk : ∀ g, v.ownBlock = some g → ¬ S g) : w1.ownsRow base e size v n xs := by
 refine ⟨h.1, ?_⟩
 rcases h.2 with h2 | ⟨g, cap, cur, hv, hbg, hg, rest⟩
 · exact .inl h2
 · have hlt : g < w.heap.size := (Array.getElem?_eq_some_iff.1 hg).1
   exact .inr ⟨g, cap, cur, hv, hbg, (hb.block g hlt (hk g (by rw [hv]; rfl))).trans hg, rest⟩
theorem sin_kp {S : Nat → Prop} {w w1 : World} {X room : Nat} {s : Nat → Bool} (h : SIn w X room s) (hb : Kp S w w1) (hk : ¬ S X) : SIn w1 X room s := by
 obtain ⟨W, h1, h2, h3, h4⟩ := h
 exact ⟨W, h1, at_kp h2 hb hk, h3, h4⟩
theorem CS.below {p : CP} {L : List Ins} {w w1 : World} {v : Value} {s : Nat → Bool} {W : List Int} (h : CS p L w v s W) (hb : Below w.heap.size w w1) : CS p L w1 v s W :=
 ⟨at_below h.iw hb h.iw.1, own_below h.row hb, at_below h.is_ hb h.is_.1, at_below h.ic hb h.ic.1, at_below h.ik hb h.ik.1, h.st.below hb h.st.lt, h.co.below (hb.mono h.lo.2.2), h.ne, h.nv, h.lo.1, h.lo.2.1, Nat.le_trans h.lo.2.2 hb.size⟩
theorem CS.same {p : CP} {L : List Ins} {w : World} {v : Value} {s s' : Nat → Bool} {W : List Int} (h : CS p L w v s W) (e : ∀ q, q < L.length → s q = s' q) : CS p L w v s' W :=
 ⟨h.iw, h.row, h.is_, h.ic, h.ik, h.st.same (fun n hn => (e n hn).symm), h.co, h.ne, h.nv, h.lo⟩
theorem CS.sets {p : CP} {L : List Ins} {w w1 : World} {v : Value} {s s1 : Nat → Bool} {W : List Int} (h : CS p L w v s W) (hs : SIn w1 p.X L.length s1) (hb : Kp (fun k => k = p.X) w w1) : CS p L w1 v s1 W ∧ Below p.lo w w1 := by
 have hB : Below p.lo w w1 := hb.below h.lo.2.2 (fun k q => by have := h.lo.1; omega)
 obtain ⟨n1, n2, n3, n4, n5, n6, n7⟩ := h.ne
 exact ⟨⟨at_kp h.iw hb n4, own_kp h.row hb (fun g q => (h.nv g q).2.2.2.2), at_kp h.is_ hb (fun q => n5 q.symm), at_kp h.ic hb (fun q => n6 q.symm), at_kp h.ik hb (fun q => n7 q.symm), hs, h.co.below hB, h.ne, h.nv, h.lo.1, h.lo.2.1, Nat.le_trans h.lo.2.2 hb.size⟩, hB⟩
theorem CS.push {p : CP} {L : List Ins} {w w1 w2 : World} {v : Value} {s : Nat → Bool} {W : List Int} {g cap : Nat} {y : Int} (h : CS p L w v s W) (h1 : Below w.heap.size w w1)
   (ho : IOwn w2 p.lo (.slice (some ⟨g, 0, none⟩) (W.length + 1) cap) (W ++ [y])) (hg : w1.grownBy w2 v.ownBlock) (hgg : v.ownBlock = some g ∨ g = w1.heap.size) :
   CS p L (w2.setCell ⟨p.bw, 0, none⟩ (.slice (some ⟨g, 0, none⟩) (W.length + 1) cap)) (.slice (some ⟨g, 0, none⟩) (W.length + 1) cap) s (W ++ [y]) ∧ Below p.lo w (w2.setCell ⟨p.bw, 0, none⟩ (.slice (some ⟨g, 0, none⟩) (W.length + 1) cap)) := by
 have q := h.below h1
 have hk : Kp (fun k => v.ownBlock = some k) w1 w2 := ⟨hg.os, hg.tape, hg.output, hg.size, fun k hk hn => hg.block k hk (fun e => hn e.symm)⟩
 obtain ⟨n1, n2, n3, n4, n5, n6, n7⟩ := h.ne
 have hgn : g ≠ p.bw ∧ g ≠ p.bs ∧ g ≠ p.bc ∧ g ≠ p.bk ∧ g ≠ p.X := by
   rcases hgg with r | r
   · exact h.nv g r
   · have a1 := q.iw.1
     have a2 := q.is_.1
     have a3 := q.ic.1
     have a4 := q.ik.1
     have a5 := q.st.lt
     refine ⟨?_, ?_, ?_, ?_, ?_⟩ <;> omega
 have iw := at_kp q.iw hk (fun r => (h.nv _ r).1 rfl)
 have hs : Kp (fun k => k = p.bw) w2 (w2.setCell ⟨p.bw, 0, none⟩ (.slice (some ⟨g, 0, none⟩) (W.length + 1) cap)) := Kp.set (S := fun k => k = p.bw) w2 _ _ rfl
 have hB : Below p.lo w2 (w2.setCell ⟨p.bw, 0, none⟩ (.slice (some ⟨g, 0, none⟩) (W.length + 1) cap)) := (Below.refl _ _).setCell h.lo.2.1 _
 have hB1 : Below p.lo w1 w2 := Below.of_grown hg q.lo.2.2 (fun k r => by
   rcases h.row.2 with ⟨rfl, _⟩ | ⟨g', cap', cur, rfl, hbg, hh, rest⟩
   · cases r
   · have : g' = k := by simpa [Value.ownBlock] using r
     omega)
 refine ⟨⟨?_, ?_, at_kp (at_kp q.is_ hk (fun r => (h.nv _ r).2.1 rfl)) hs (fun r => n1 r.symm), at_kp (at_kp q.ic hk (fun r => (h.nv _ r).2.2.1 rfl)) hs (fun r => n2 r.symm), at_kp (at_kp q.ik hk (fun r => (h.nv _ r).2.2.2.1 rfl)) hs (fun r => n3 r.symm), sin_kp (sin_kp q.st hk (fun r => (h.nv _ r).2.2.2.2 rfl)) hs (fun r => n4 r.symm), (q.co.below hB1).below hB, h.ne, ?_, h.lo.1, h.lo.2.1, ?_⟩, ((h1.mono h.lo.2.2).trans hB1).trans hB⟩
 · have := iw.set 0 (.slice (some ⟨g, 0, none⟩) (W.length + 1) cap) (by simp)
   simpa using this
 · have e : (W ++ [y]).length = W.length + 1 := by simp
   unfold IOwn at *
   exact own_kp ho hs (fun k r => by
     have : g = k := by simpa [Value.ownBlock] using r
     rw [← this]; exact hgn.1)
 · intro k r
   have : g = k := by simpa [Value.ownBlock] using r
   rw [← this]; exact hgn
 · have := hg.size
   have := q.lo.2.2
   simp
   omega
def setOf (w : World) (X : Nat) : Nat → Bool := fun n => match w.cell? ⟨X, n / 64, none⟩ with | some (.int _ v) => Nat.testBit v.toNat (n % 64) | _ => false
theorem setOf_eq {w : World} {X room : Nat} {s : Nat → Bool} (h : SIn w X room s) : ∀ n, n < room → setOf w X n = s n := fun n hn => by
 obtain ⟨x, x1, x2, x3⟩ := h.word hn
 rw [x3]
 simp [setOf, x2]
theorem cnt_set {w : World} {X room : Nat} {s : Nat → Bool} (h : SIn w X room s) : cnt room (setOf w X) = cnt room s := cnt_congr room (setOf_eq h)
end F
end Go.Proofs.YtfidlchgmgmcbaaGreatDoor


namespace Go.Proofs.YtfidlchgmgmcbaaGreatDoor
set_option maxRecDepth 100000
set_option maxHeartbeats 40000000
namespace F
open Go.RowKit
open T

theorem CS.ins {p : CP} {L : List Ins} {w : World} {v : Value} {s : Nat → Bool} {W : List Int} (h : CS p L w v s W) {b off q : Nat} (hq : q < L.length) (e : p.ca = some ⟨b, off, none⟩) :
   b < w.heap.size ∧ w.cell? ⟨b, off + q * 5, none⟩ = some (.int .u8 L[q].op) ∧ w.cell? ⟨b, off + q * 5 + 1 + 1 + 1 + 1, none⟩ = some (.int .i64 L[q].m) := by
 obtain ⟨b', off', e', h1, h2, h3⟩ := h.co q hq
 rw [e] at e'
 cases e'
 exact ⟨h2, h3.1, h3.2.2.2.2⟩
theorem CS.boxes {p : CP} {L : List Ins} {w : World} {v : Value} {s : Nat → Bool} {W : List Int} (h : CS p L w v s W) :
   w.cell? ⟨p.bw, 0, none⟩ = some v ∧ w.cell? ⟨p.bs, 0, none⟩ = some (.slice (some ⟨p.X, 0, none⟩) ((L.length + 63) / 64) ((L.length + 63) / 64)) ∧ w.cell? ⟨p.bs, 1, none⟩ = some (.int .i64 L.length) ∧ w.cell? ⟨p.bc, 0, none⟩ = some (.slice p.ca L.length p.cc) ∧ w.cell? ⟨p.bk, 0, none⟩ = some p.fv :=
 ⟨h.iw.2.1 0, h.is_.2.1 0, h.is_.2.1 1, h.ic.2.1 0, h.ik.2.1 0⟩
theorem way_cases (op : Int) : wayN op = 4 ∨ wayN op = 3 ∨ wayN op = 1 ∨ wayN op = 2 ∨ wayN op = 0 := by
 unfold wayN
 split
 · simp
 · split
   · simp
   · split
     · simp
     · split <;> simp
theorem fol_jump {L : List Ins} {q r : Nat} (hq : q < L.length) (hw : wayN L[q].op = 1) : folB L q r = (decide (r < L.length) && decide ((r : Int) = L[q].m)) := by
 simp [folB, hq, wyF, hw]
theorem fol_branch {L : List Ins} {q r : Nat} (hq : q < L.length) (hw : wayN L[q].op = 2) : folB L q r = (decide (r < L.length) && (decide ((r : Int) = L[q].m) || decide (r = q + 1))) := by
 simp [folB, hq, wyF, hw]
theorem fol_next {L : List Ins} {q r : Nat} (hq : q < L.length) (hw : wayN L[q].op = 0) : folB L q r = (decide (r < L.length) && decide (r = q + 1)) := by
 simp [folB, hq, wyF, hw]
theorem Wk.jump {L : List Ins} {out : Int} {s s1 : Nat → Bool} {pc : Int} {p : Nat} {D : List Int} (h : Wk L out s pc s1 D p) (hp : p < L.length) (hs : s1 p = false) (ho : thB L.length out = true → s out.toNat = true) (hw : wayN (L[p]).op = 1) : Wk L out s pc (adS s1 p) D L[p].m := by
 have := h.on (s3 := adS s1 p) (D' := []) (tt := L[p].m) hp hs ho (fun _ _ e => e) (fun r e => .inl (by rw [fol_jump hp hw] at e; simpa using (by simp at e; exact e.2))) (fun e => by
   obtain ⟨n, hn, hl⟩ := thB_elim e
   rw [fol_jump hp hw, hn]
   simp [hl]) (fun p' q h1 h2 _ => by rw [h1] at h2; cases h2) (fun R _ _ => ⟨fun _ _ e => .inl e, fun d hd => by simp at hd⟩) (by simp)
 simpa using this
theorem Wk.next {L : List Ins} {out : Int} {s s1 : Nat → Bool} {pc : Int} {p : Nat} {D : List Int} (h : Wk L out s pc s1 D p) (hp : p < L.length) (hs : s1 p = false) (ho : thB L.length out = true → s out.toNat = true) (hw : wayN (L[p]).op = 0) : Wk L out s pc (adS s1 p) D ((p + 1 : Nat) : Int) := by
 have := h.on (s3 := adS s1 p) (D' := []) (tt := ((p + 1 : Nat) : Int)) hp hs ho (fun _ _ e => e) (fun r e => .inl (by rw [fol_next hp hw] at e; simp at e; omega)) (fun e => by
   rw [fol_next hp hw]
   rw [thB_nat] at e
   simpa using e) (fun p' q h1 h2 _ => by rw [h1] at h2; cases h2) (fun R _ _ => ⟨fun _ _ e => .inl e, fun d hd => by simp at hd⟩) (by simp)
 simpa using this
theorem Wk.branch {L : List Ins} {out : Int} {s s1 s3 : Nat → Bool} {pc : Int} {p dp : Nat} {D D' : List Int} (h : Wk L out s pc s1 D p) (hp : p < L.length) (hs : s1 p = false) (ho : thB L.length out = true → s out.toNat = true) (hw : wayN (L[p]).op = 2) (f : Wf L out dp (adS s1 p) L[p].m s3 D') (hdp : dp ≤ 1) : Wk L out s pc s3 (D ++ D') ((p + 1 : Nat) : Int) := by
 refine h.on hp hs ho f.mono (fun r e => ?_) (fun e => ?_) (fun p' q h1 h2 h3 => f.clo p' q h1 h2 h3) (fun R r1 r2 => f.snd R r1 (fun e1 e2 => ?_)) (by have := f.ct; omega)
 · rw [fol_branch hp hw] at e
   simp at e
   rcases e.2 with r1 | r1
   · have := f.cov (by rw [← r1, thB_nat]; exact e.1)
     rw [← r1] at this
     simpa using .inr this
   · left; omega
 · rw [thB_nat] at e
   rw [fol_branch hp hw]
   simp
   omega
 · obtain ⟨n, hn, hl⟩ := thB_elim e1
   rw [hn] at e2 ⊢
   exact r1 p n r2 (by rw [fol_branch hp hw]; simp [hl, hn]) e2
def LI (p : CP) (L : List Ins) (out : Int) (w : World) (s : Nat → Bool) (W : List Int) (pc pc1 : Int) (wr : World) : Prop :=
 Hid (∃ v1 s1 D, CS p L wr v1 s1 (W ++ D) ∧ Wk L out s pc s1 D pc1 ∧ Below p.lo w wr)
theorem walk_any (p : CP) (L : List Ins) (out : Int) (hn : L.length < 2000000) : ∀ (k : Nat) (s : Nat → Bool) (W : List Int) (v : Value) (pc : Int) (dep : Nat) (w : World), CS p L w v s W → (thB L.length out = true → s out.toNat = true) → L.length - cnt L.length s ≤ k → dep ≤ 1000 → W.length + (L.length - cnt L.length s) < 7000000 →
   Calls Tryz.prog 56 #[.int .i64 pc, .int .i64 dep, .pointer (some ⟨p.bw, 0, none⟩), .pointer (some ⟨p.bs, 0, none⟩), .pointer (some ⟨p.bc, 0, none⟩), .pointer (some ⟨p.bk, 0, none⟩)] w
     fun e w' => e = .returned (.tuple #[]) ∧ ∃ v' s' D, CS p L w' v' s' (W ++ D) ∧ Wf L out (if dep = 1000 then 1 else 0) s pc s' D ∧ Below p.lo w w' := by
 intro k
 induction k using Nat.strongRecOn with
 | _ k IH =>
 intro s W v pc dep w hC ho hk hd hW
 by_cases e0 : dep = 1000
 · subst e0
   obtain ⟨z1, z2, z3, z4, z5⟩ := hC.boxes
   have hbl := hC.iw.1
   have fr := hC.iw.2.2
   have hp := fun w2 g cap y => hC.push (w1 := w.alloc (.cells #[.int .i64 pc] 3)) (w2 := w2) (g := g) (cap := cap) (y := y) (by (repeat (first | assumption | with_reducible exact Below.refl _ _ | with_reducible refine Below.alloc ?_ (by simp <;> omega) _ | with_reducible refine Below.setCell ?_ (by simp <;> omega) _ | with_reducible refine Below.drew ?_)))
   have hlo := hC.lo.2.2
   have hrow : IOwn (w.alloc (.cells #[.int .i64 pc] 3)) p.lo v W := own_below hC.row (by (repeat (first | assumption | with_reducible exact Below.refl _ _ | with_reducible refine Below.alloc ?_ (by simp <;> omega) _ | with_reducible refine Below.setCell ?_ (by simp <;> omega) _ | with_reducible refine Below.drew ?_)))
   have hnb := hC.nv
   have hWl : W.length ≤ 8000000 := by omega
   replace hC := Hid.mk hC
   replace hp := Hid.mk hp
   replace hrow := Hid.mk hrow
   replace hnb := Hid.mk hnb
   clear IH
   go_enter Tryz.func56, Tryz.ntmps56
   go_wp2_with (at_builtin; refine wpList_append_int rfl (.tmp 10) (.tmp 12) rfl p.lo v W pc rfl hrow.out w.heap.size rfl (At.new w _ _) hWl (by simp; omega) ?_)
   intro g cap w2 g1 g2 g3 g4
   have hbw : w2.cell? ⟨p.bw, 0, none⟩ = some v := by
     rw [cell_of_block (g2.block p.bw (by simp; omega) (fun r => (hnb.out _ r.symm).1 rfl)), World.cell?_alloc_past _ _ _ hbl]
     exact z1
   have hbf : w2.frozen? ⟨p.bw, 0, none⟩ = false := by
     rw [frozen_of_block (g2.block p.bw (by simp; omega) (fun r => (hnb.out _ r.symm).1 rfl))]
     have := ((hC.out.below (w1 := w.alloc (.cells #[.int .i64 pc] 3)) (by (repeat (first | assumption | with_reducible exact Below.refl _ _ | with_reducible refine Below.alloc ?_ (by simp <;> omega) _ | with_reducible refine Below.setCell ?_ (by simp <;> omega) _ | with_reducible refine Below.drew ?_)))).iw).2.2 0
     exact this
   have hp2 := Hid.mk (hp.out w2 g cap pc g1 g2 (by simpa using g3))
   replace g1 := Hid.mk g1
   replace g2 := Hid.mk g2
   go_wp2_with fail
   refine bodyPost_ret (results_none (by kernel_rfl) _ _ _) rfl ?_
   exact ⟨rfl, _, s, [pc], hp2.out.1, Wf.deep L out s pc, hp2.out.2⟩
 · have hde : ((dep : Int) == 1000) = false := by simpa using (by omega : ¬ (dep : Int) = 1000)
   rw [if_neg e0]
   have h0 : LI p L out w s W pc pc w := Hid.mk ⟨v, s, [], by simpa using hC, Wk.start L out s pc, Below.refl _ _⟩
   replace hC := Hid.mk hC
   replace IH := Hid.mk IH
   replace ho := Hid.mk ho
   go_enter Tryz.func56, Tryz.ntmps56
   go_wp2_with fail
   go_loopw [0] (fun x wr => ∃ pc1 : Int, x = .int .i64 pc1 ∧ LI p L out w s W pc pc1 wr) (fun _ wr => L.length - cnt L.length (setOf wr p.X))
   case atStart => exact ⟨pc, rfl, h0⟩
   case round =>
     obtain ⟨pc1, rfl, hI⟩ := hrel
     obtain ⟨v1, s1, D, hC1, hK, hB⟩ := hI.out
     have hm := cnt_set hC1.st
     obtain ⟨z1, z2, z3, z4, z5⟩ := hC1.boxes
     have hA := add_any p.X L.length s1 pc1 wr hC1.st hn
     have hT := fun w1 (q1 : SIn w1 p.X L.length (adS s1 pc1)) (q2 : Kp (fun k => k = p.X) wr w1) => hC1.sets q1 q2
     unfold sv at hA
     cases e1 : adB L.length s1 pc1 with
     | false =>
       rw [e1] at hA
       obtain ⟨s3, f1, f2⟩ := hK.stop e1 rfl 0
       generalize (L.length + 63) / 64 = nw at *
       replace hA := Hid.mk hA
       replace hT := Hid.mk hT
       replace hC1 := Hid.mk hC1
       replace hB := Hid.mk hB
       replace f1 := Hid.mk f1
       replace f2 := Hid.mk f2
       go_wp2_with (go_at_call 30; refine hA.out.mono ?_; rintro x w1 ⟨rfl, q1, q2⟩)
       go_end0
       have := hT.out w1 q1 q2
       exact ⟨rfl, v1, s3, D, this.1.same f2.out, f1.out, hB.out.trans this.2⟩
     | true =>
       rw [e1] at hA
       have e2 : thB L.length pc1 = true ∧ s1 pc1.toNat = false := by simpa [adB] using e1
       obtain ⟨q, rfl, hq⟩ := thB_elim e2.1
       have e3 : s1 q = false := by simpa using e2.2
       obtain ⟨b, off, hca, _⟩ := hC1.co q hq
       have hT2 : ∀ w1, SIn w1 p.X L.length (adS s1 q) → Kp (fun k => k = p.X) wr w1 → (w1.cell? ⟨p.bs, 0, none⟩ = some (.slice (some ⟨p.X, 0, none⟩) ((L.length + 63) / 64) ((L.length + 63) / 64)) ∧ w1.cell? ⟨p.bs, 1, none⟩ = some (.int .i64 L.length) ∧ w1.cell? ⟨p.bc, 0, none⟩ = some (.slice (some ⟨b, off, none⟩) L.length p.cc) ∧ w1.cell? ⟨p.bk, 0, none⟩ = some p.fv ∧ w1.cell? ⟨b, off + q * 5, none⟩ = some (.int .u8 L[q].op) ∧ w1.cell? ⟨b, off + q * 5 + 1 + 1 + 1 + 1, none⟩ = some (.int .i64 L[q].m)) ∧ CS p L w1 v1 (adS s1 q) (W ++ D) ∧ Below p.lo w w1 := fun w1 q1 q2 => by
         have t := hT w1 q1 q2
         obtain ⟨y1, y2, y3, y4, y5⟩ := t.1.boxes
         rw [hca] at y4
         exact ⟨⟨y2, y3, y4, y5, (t.1.ins hq hca).2.1, (t.1.ins hq hca).2.2⟩, t.1, hB.trans t.2⟩
       have hWo := wayOf_any L[q].op
       have hq1 : (q : Int) < L.length := by omega
       have hq2 : ¬ (L.length : Int) ≤ q := by omega
       have hcn := cnt_add L.length q s1 hq e3
       have hcl := cnt_le L.length (adS s1 q)
       clear hT e1 e2
       rcases way_cases L[q].op with hy | hy | hy | hy | hy
       · have f1 := hK.ends hq e3 ho.out hy 0
         rw [hy] at hWo
         generalize L[q].op = op at *
         generalize L[q].m = im at *
         generalize (L.length + 63) / 64 = nw at *
         replace hA := Hid.mk hA
         replace hT2 := Hid.mk hT2
         replace hC1 := Hid.mk hC1
         replace hB := Hid.mk hB
         replace f1 := Hid.mk f1
         replace hWo := Hid.mk hWo
         replace hK := Hid.mk hK
         go_wp2_with (first | (go_at_call 30; refine hA.out.mono ?_; rintro x w1 ⟨rfl, q1, q2⟩; obtain ⟨⟨y1, y2, y3, y4, y5, y6⟩, y7, y8⟩ := hT2.out w1 q1 q2; replace y7 := Hid.mk y7; replace y8 := Hid.mk y8; replace q1 := Hid.mk q1; replace q2 := Hid.mk q2) | (go_at_call 24; refine (hWo.out _).mono ?_; rintro x w2 ⟨rfl, rfl⟩))
         refine bodyPost_ret (results_none (by kernel_rfl) _ _ _) rfl ?_
         exact ⟨rfl, v1, _, D, y7.out, f1.out, y8.out⟩
       · have f1 := hK.any hq e3 ho.out hy 0
         rw [hy] at hWo
         have hFl := fun w1 (r : SIn w1 p.X L.length (adS s1 q)) => fill_any p.X L.length (adS s1 q) w1 r hn
         unfold sv at hFl
         generalize L[q].op = op at *
         generalize L[q].m = im at *
         generalize (L.length + 63) / 64 = nw at *
         replace hA := Hid.mk hA
         replace hT2 := Hid.mk hT2
         replace hC1 := Hid.mk hC1
         replace hB := Hid.mk hB
         replace hWo := Hid.mk hWo
         replace hK := Hid.mk hK
         replace f1 := Hid.mk f1
         replace hFl := Hid.mk hFl
         go_wp2_with (first | (go_at_call 30; refine hA.out.mono ?_; rintro x w1 ⟨rfl, q1, q2⟩; obtain ⟨⟨y1, y2, y3, y4, y5, y6⟩, y7, y8⟩ := hT2.out w1 q1 q2; have y9 := cnt_set y7.st; replace y7 := Hid.mk y7; replace y8 := Hid.mk y8; replace q1 := Hid.mk q1; replace q2 := Hid.mk q2) | (go_at_call 24; refine (hWo.out _).mono ?_; rintro x w2 ⟨rfl, rfl⟩) | (go_at_call 57; refine (hFl.out _ q1.out).mono ?_; rintro x w2 ⟨rfl, r1, r2⟩))
         refine bodyPost_ret (results_none (by kernel_rfl) _ _ _) rfl ?_
         have r3 := y7.out.sets r1 r2
         exact ⟨rfl, v1, _, D, r3.1, f1.out, y8.out.trans r3.2⟩
       · have f1 := hK.jump hq e3 ho.out hy
         rw [hy] at hWo
         generalize L[q].op = op at *
         generalize L[q].m = im at *
         generalize (L.length + 63) / 64 = nw at *
         replace hA := Hid.mk hA
         replace hT2 := Hid.mk hT2
         replace hC1 := Hid.mk hC1
         replace hB := Hid.mk hB
         replace hWo := Hid.mk hWo
         replace hK := Hid.mk hK
         replace f1 := Hid.mk f1
         go_wp2_with (first | (go_at_call 30; refine hA.out.mono ?_; rintro x w1 ⟨rfl, q1, q2⟩; obtain ⟨⟨y1, y2, y3, y4, y5, y6⟩, y7, y8⟩ := hT2.out w1 q1 q2; have y9 := cnt_set y7.st; replace y7 := Hid.mk y7; replace y8 := Hid.mk y8; replace q1 := Hid.mk q1; replace q2 := Hid.mk q2) | (go_at_call 24; refine (hWo.out _).mono ?_; rintro x w2 ⟨rfl, rfl⟩))
         go_roundw
         case rel => exact ⟨im, rfl, Hid.mk ⟨v1, _, D, y7.out, f1.out, y8.out⟩⟩
         case measure => omega
       · have f1 := fun s3 dp D' (r1 : Wf L out dp (adS s1 q) L[q].m s3 D') r2 => hK.branch hq e3 ho.out hy r1 r2
         rw [hy] at hWo
         have hR := fun w1 (r : CS p L w1 v1 (adS s1 q) (W ++ D)) => IH.out (k - 1) (by have := cnt_mono L.length hK.mono; omega) (adS s1 q) (W ++ D) v1 L[q].m (dep + 1) w1 r (fun e => by
           obtain ⟨n, rfl, hl⟩ := thB_elim e
           have := hK.mono n hl (by have := ho.out e; simpa using this)
           simp [adS, this]) (by have := cnt_mono L.length hK.mono; omega) (by omega) (by have := hK.ct; rw [List.length_append]; omega)
         have hd1 : IntKind.i64.wrap ((dep : Int) + 1) = ((dep + 1 : Nat) : Int) := by rw [IntKind.wrap_i64]; omega
         unfold CP.fv at hT2
         generalize L[q].op = op at *
         generalize L[q].m = im at *
         generalize (L.length + 63) / 64 = nw at *
         replace hA := Hid.mk hA
         replace hT2 := Hid.mk hT2
         replace hC1 := Hid.mk hC1
         replace hB := Hid.mk hB
         replace hWo := Hid.mk hWo
         replace hK := Hid.mk hK
         replace f1 := Hid.mk f1
         replace hR := Hid.mk hR
         go_wp2_with (first | (go_at_call 30; refine hA.out.mono ?_; rintro x w1 ⟨rfl, q1, q2⟩; obtain ⟨⟨y1, y2, y3, y4, y5, y6⟩, y7, y8⟩ := hT2.out w1 q1 q2; have y9 := cnt_set y7.st; replace y7 := Hid.mk y7; replace y8 := Hid.mk y8; replace q1 := Hid.mk q1; replace q2 := Hid.mk q2) | (go_at_call 24; refine (hWo.out _).mono ?_; rintro x w2 ⟨rfl, rfl⟩))
         go_region_with (go_at_call 56; refine (hR.out _ (y7.out.below (by (repeat (first | assumption | with_reducible exact Below.refl _ _ | with_reducible refine Below.alloc ?_ (by simp <;> omega) _ | with_reducible refine Below.setCell ?_ (by simp <;> omega) _ | with_reducible refine Below.drew ?_))))).mono ?_; rintro x w3 ⟨rfl, v3, s3, D3, r1, r2, r3⟩; replace r1 := Hid.mk r1; replace r2 := Hid.mk r2; have r4 : Hid (Below p.lo w2 w3) := Hid.mk (Below.trans (by (repeat (first | assumption | with_reducible exact Below.refl _ _ | with_reducible refine Below.alloc ?_ (by simp <;> omega) _ | with_reducible refine Below.setCell ?_ (by simp <;> omega) _ | with_reducible refine Below.drew ?_))) r3); clear r3)
         all_goals
           go_wp2_with fail
           go_roundw
           case rel => exact ⟨((q + 1 : Nat) : Int), by simp, Hid.mk ⟨v3, _, D ++ D3, by have := r1.out; rwa [List.append_assoc] at this, f1.out s3 _ D3 r2.out (by split <;> omega), y8.out.trans r4.out⟩⟩
           case measure =>
             have a1 := cnt_set r1.out.st
             have a2 := cnt_mono L.length r2.out.mono
             have a3 := cnt_le L.length s3
             omega
       · have f1 := hK.next hq e3 ho.out hy
         rw [hy] at hWo
         generalize L[q].op = op at *
         generalize L[q].m = im at *
         generalize (L.length + 63) / 64 = nw at *
         replace hA := Hid.mk hA
         replace hT2 := Hid.mk hT2
         replace hC1 := Hid.mk hC1
         replace hB := Hid.mk hB
         replace hWo := Hid.mk hWo
         replace hK := Hid.mk hK
         replace f1 := Hid.mk f1
         go_wp2_with (first | (go_at_call 30; refine hA.out.mono ?_; rintro x w1 ⟨rfl, q1, q2⟩; obtain ⟨⟨y1, y2, y3, y4, y5, y6⟩, y7, y8⟩ := hT2.out w1 q1 q2; have y9 := cnt_set y7.st; replace y7 := Hid.mk y7; replace y8 := Hid.mk y8; replace q1 := Hid.mk q1; replace q2 := Hid.mk q2) | (go_at_call 24; refine (hWo.out _).mono ?_; rintro x w2 ⟨rfl, rfl⟩))
         go_roundw
         case rel => exact ⟨((q + 1 : Nat) : Int), by simp, Hid.mk ⟨v1, _, D, y7.out, f1.out, y8.out⟩⟩
         case measure => omega
end F
end Go.Proofs.YtfidlchgmgmcbaaGreatDoor


namespace Go.Proofs.YtfidlchgmgmcbaaGreatDoor
set_option maxRecDepth 100000
set_option maxHeartbeats 40000000
namespace F
open Go.RowKit
open T

def NIn (B : Nat) (w : World) (a : Option Addr) (E : List Int) : Prop := ∀ i (h : i < E.length), ∃ b off : Nat, a = some ⟨b, off, none⟩ ∧ b < B ∧ b < w.heap.size ∧ w.cell? ⟨b, off + i, none⟩ = some (.int .i64 E[i])
theorem NIn.below {B : Nat} {w w1 : World} {a : Option Addr} {E : List Int} (h : NIn B w a E) (hb : Below B w w1) : NIn B w1 a E := fun i hi => by
 obtain ⟨b, off, ha, h1, h2, h3⟩ := h i hi
 exact ⟨b, off, ha, h1, Nat.lt_of_lt_of_le h2 hb.size, (hb.cell (p := ⟨b, _, none⟩) h1).trans h3⟩
theorem NIn.mono {B B' : Nat} {w : World} {a : Option Addr} {E : List Int} (h : NIn B w a E) (hb : B ≤ B') : NIn B' w a E := fun i hi => by
 obtain ⟨b, off, ha, h1, h2, h3⟩ := h i hi
 exact ⟨b, off, ha, Nat.lt_of_lt_of_le h1 hb, h2, h3⟩
def NilOk (a : Option Addr) (n c : Nat) : Prop := a = none → n = 0 ∧ c = 0
theorem wpList_append_nums {ops : Array Oper} {rest : List Oper} {o : Oper} {a : Act} {Q : Exit → Act → World → Prop} {w : World} (hgd : o.guard = none) (s x : Operand)
   (ho : o.op = .call { callee := .builtin .append, args := #[s, x], argTypes := #[58, 58] })
   (base : Nat) (v : Value) (L M : List Int) (hs : a.eval s = v) (hL : IOwn w base v L)
   (ad : Addr) (c : Nat) (hx : a.eval x = .slice (some ad) M.length c) (B : Nat) (hM : NIn B w (some ad) M) (hlen : L.length + M.length ≤ 8000000) (hbase : base ≤ w.heap.size)
   (h : ∀ v' w', IOwn w' base v' (L ++ M) → w.grownBy w' v.ownBlock → (v'.ownBlock = v.ownBlock ∨ v'.ownBlock = some w.heap.size) → wpList Tryz.prog ops Q rest (a.put o.dst v') w') :
   wpList Tryz.prog ops Q (o :: rest) a w := by
 obtain ⟨i0, hi, hz0, hz1, hz2⟩ := info_parts' (t := 3) (z := .int .i64 0) (s := 1) (b := 8) (by kernel_rfl)
 refine wpList_append_own_at _ hgd s x 58 ho base 3 i0 (.int .i64 0) 1 8 Tryz.underlying58 hi hz0 hz1 hz2 rfl (by decide)
   v L.length (L.map (Value.int .i64)) hs hL ad M.length c (M.map (Value.int .i64)) hx (by simp) (fun j u hj => ?_) (fun u hu => ?_) (by unfold maxLen; omega) (by omega) hbase ?_
 · have hjl : j < M.length := by
     have := (List.getElem?_eq_some_iff.1 hj).1
     simpa using this
   obtain ⟨b, off, e, _, _, hc⟩ := hM j hjl
   cases e
   rw [addr_add, hc, ← hj]
   simp [hjl]
 · obtain ⟨y, _, rfl⟩ := List.mem_map.1 hu
   rfl
 · intro v' w' h1 h2 _ h4
   refine h v' w' ?_ h2 h4
   unfold IOwn
   rw [List.length_append, List.map_append]
   exact h1
theorem eql_some (ad : Addr) (n c : Nat) (W : World) : (binOp .eql 58 (.slice (some ad) n c) (.slice none 0 0)).run Tryz.prog W = .ok (.bool false) W := rfl
theorem eql_none (n c : Nat) (W : World) : (binOp .eql 58 (.slice none n c) (.slice none 0 0)).run Tryz.prog W = .ok (.bool true) W := rfl
theorem clone_any (a : Option Addr) (c : Nat) (E : List Int) (w : World) (hE : NIn w.heap.size w a E) (hn : NilOk a E.length c) (hl : E.length ≤ 4000000) :
   Calls Tryz.prog 55 #[.slice a E.length c] w fun e w' => ∃ v, e = .returned v ∧ IOwn w' w.heap.size v E ∧ Below w.heap.size w w' := by
 cases a with
 | none =>
   obtain ⟨h0, rfl⟩ := hn rfl
   have e0 : E = [] := List.length_eq_zero_iff.1 h0
   subst e0
   have eq0 := eql_none 0 0
   simp only [List.length_nil]
   clear hE hn
   go_enter Tryz.func55, Tryz.ntmps55
   go_wp2_with fail
   go_ret
   exact ⟨_, rfl, ⟨rfl, .inl ⟨rfl, rfl⟩⟩, Below.refl _ _⟩
 | some ad =>
   have eq0 := eql_some ad E.length c
   have hO : IOwn (w.alloc (.cells #[] 3)) w.heap.size (.slice (some ⟨w.heap.size, 0, none⟩) 0 0) [] := ⟨rfl, .inr ⟨w.heap.size, 0, #[], rfl, Nat.le_refl _, (MapKept.heap_alloc w _).1, Nat.le_refl _, by simp [maxLen], rfl, rfl⟩⟩
   have hM : NIn w.heap.size (w.alloc (.cells #[] 3)) (some ad) E := hE.below (by (repeat (first | assumption | with_reducible exact Below.refl _ _ | with_reducible refine Below.alloc ?_ (by simp <;> omega) _ | with_reducible refine Below.setCell ?_ (by simp <;> omega) _ | with_reducible refine Below.drew ?_)))
   replace hE := Hid.mk hE
   replace hO := Hid.mk hO
   replace hM := Hid.mk hM
   clear hn
   go_enter Tryz.func55, Tryz.ntmps55
   go_wp2_with (at_builtin; refine wpList_append_nums rfl (.tmp 5) (.tmp 6) rfl w.heap.size (.slice (some ⟨w.heap.size, 0, none⟩) 0 0) [] E rfl hO.out ad c rfl w.heap.size hM.out (by simp; omega) (by simp) ?_)
   intro v' w' g1 g2 g3
   replace g1 := Hid.mk g1
   have g4 : Hid (Below w.heap.size w w') := Hid.mk (Below.trans (((Below.refl _ w).alloc (Nat.le_refl _) _)) (Below.of_grown g2 (by simp) (fun k r => by simp [Value.ownBlock] at r; omega)))
   clear g2 g3
   go_wp2_with fail
   go_ret
   exact ⟨_, rfl, by simpa using g1.out, g4.out⟩
structure Ot (L : List Ins) (E : List Int) (out : Int) (s : Nat → Bool) (W : List Int) : Prop where
 ent : ∀ e ∈ E, thB L.length e = true → s e.toNat = true ∨ e ∈ W
 clo : ∀ p q, s p = true → (p : Int) ≠ out → folB L p q = true → s q = true ∨ (q : Int) ∈ W
 snd : ∀ q, q < L.length → s q = true → Rch L E out q ∨ (q : Int) = out
 snw : ∀ d ∈ W, thB L.length d = true → d ≠ out → Rch L E out d.toNat
 out : thB L.length out = true → s out.toNat = true
 len : W.length + (L.length - cnt L.length s) ≤ E.length + L.length
theorem Ot.start (L : List Ins) (E : List Int) (out : Int) : Ot L E out (adS (fun _ => false) out) E := by
 refine ⟨fun e he _ => .inr he, fun p q h1 h2 _ => ?_, fun q _ h => ?_, fun d hd h1 h2 => ?_, fun h => ?_, by omega⟩
 · simp [adS] at h1; exact absurd h1 h2
 · simp [adS] at h; exact .inr h
 · obtain ⟨n, rfl, hn⟩ := thB_elim h1
   exact Rch.base hd (by simpa using hn) h2
 · obtain ⟨n, rfl, hn⟩ := thB_elim h
   simp [adS]
theorem Ot.step {L : List Ins} {E W D : List Int} {out pc : Int} {s s1 : Nat → Bool} (h : Ot L E out s (W ++ [pc])) (f : Wf L out 0 s pc s1 D) : Ot L E out s1 (W ++ D) := by
 have hpc : thB L.length pc = true → pc ≠ out → Rch L E out pc.toNat := h.snw pc (by simp)
 obtain ⟨g1, g2⟩ := f.snd (Rch L E out) (fun p q a b c => Rch.step a b c) hpc
 refine ⟨fun e he ht => ?_, fun p q h1 h2 h3 => ?_, fun q hq h1 => ?_, fun d hd => ?_, fun ht => ?_, ?_⟩
 · obtain ⟨n, rfl, hn⟩ := thB_elim ht
   rcases h.ent _ he ht with r | r
   · exact .inl (f.mono _ (by simpa using hn) r)
   · rcases List.mem_append.1 r with r | r
     · exact .inr (by simp [r])
     · rw [List.mem_singleton] at r
       rw [← r] at f
       rcases f.cov ht with t | t
       · exact .inl t
       · exact .inr (by simp [t])
 · cases e : s p with
   | true =>
     rcases h.clo p q e h2 h3 with r | r
     · exact .inl (f.mono _ (folB_lt h3) r)
     · rcases List.mem_append.1 r with r | r
       · exact .inr (by simp [r])
       · rw [List.mem_singleton] at r
         have := f.cov (by rw [← r, thB_nat]; exact folB_lt h3)
         rw [← r] at this
         rcases this with t | t
         · exact .inl (by simpa using t)
         · exact .inr (by simp [t])
   | false =>
     rcases f.clo p q h1 e h3 with r | r
     · exact .inl r
     · exact .inr (by simp [r])
 · rcases g1 q hq h1 with r | r
   · exact h.snd q hq r
   · exact .inl r
 · rcases List.mem_append.1 hd with r | r
   · exact h.snw d (by simp [r])
   · exact g2 d r
 · obtain ⟨n, rfl, hn⟩ := thB_elim ht
   exact f.mono _ (by simpa using hn) (h.out ht)
 · have h1 := h.len
   have h2 := f.ct
   have h3 := cnt_le L.length s1
   simp only [List.length_append, List.length_singleton] at h1 ⊢
   omega
theorem Ot.stop {L : List Ins} {E : List Int} {out : Int} {s : Nat → Bool} (h : Ot L E out s []) : ∀ q, q < L.length → (s q = true ↔ Rch L E out q ∨ (q : Int) = out) := by
 intro q hq
 refine ⟨h.snd q hq, fun r => ?_⟩
 rcases r with r | r
 · clear hq
   induction r with
   | base h1 h2 h3 =>
     rcases h.ent _ h1 (thB_nat.2 h2) with r | r
     · simpa using r
     · simp at r
   | step h1 h2 h3 ih =>
     rcases h.clo _ _ ih h1.ne h2 with r | r
     · exact r
     · simp at r
 · have := h.out (by rw [← r, thB_nat]; exact hq)
   rw [← r] at this
   simpa using this
theorem CS.pop {p : CP} {L : List Ins} {w : World} {v : Value} {s : Nat → Bool} {W : List Int} {y : Int} (h : CS p L w v s (W ++ [y])) :
   ∃ g cap, v = .slice (some ⟨g, 0, none⟩) (W.length + 1) cap ∧ W.length + 1 ≤ cap ∧ g < w.heap.size ∧ g ≠ p.bw ∧ w.cell? ⟨g, W.length, none⟩ = some (.int .i64 y) ∧ CS p L (w.setCell ⟨p.bw, 0, none⟩ (.slice (some ⟨g, 0, none⟩) W.length cap)) (.slice (some ⟨g, 0, none⟩) W.length cap) s W ∧ Below p.lo w (w.setCell ⟨p.bw, 0, none⟩ (.slice (some ⟨g, 0, none⟩) W.length cap)) := by
 have hr := h.row
 have e : (W ++ [y]).length = W.length + 1 := by simp
 rcases hr.2 with ⟨_, h0⟩ | ⟨g, cap, cur, rfl, hbg, hh, h1, h2, h3, h4⟩
 · simp at h0
 · have hgl : g < w.heap.size := (Array.getElem?_eq_some_iff.1 hh).1
   have hgn := h.nv g rfl
   have hs : Kp (fun k => k = p.bw) w (w.setCell ⟨p.bw, 0, none⟩ (.slice (some ⟨g, 0, none⟩) W.length cap)) := Kp.set (S := fun k => k = p.bw) w _ _ rfl
   have hB : Below p.lo w (w.setCell ⟨p.bw, 0, none⟩ (.slice (some ⟨g, 0, none⟩) W.length cap)) := (Below.refl _ _).setCell h.lo.2.1 _
   obtain ⟨n1, n2, n3, n4, n5, n6, n7⟩ := h.ne
   have hc := World.ownsRow.cells hr (g := g) rfl W.length (.int .i64 y) (by simp)
   rw [addr_add, Nat.zero_add] at hc
   refine ⟨g, cap, by rw [e], by omega, hgl, hgn.1, hc, ⟨?_, ?_, at_kp h.is_ hs (fun r => n1 r.symm), at_kp h.ic hs (fun r => n2 r.symm), at_kp h.ik hs (fun r => n3 r.symm), sin_kp h.st hs (fun r => n4 r.symm), h.co.below hB, h.ne, ?_, h.lo.1, h.lo.2.1, by simpa using h.lo.2.2⟩, hB⟩
   · have := h.iw.set 0 (.slice (some ⟨g, 0, none⟩) W.length cap) (by simp)
     simpa using this
   · have hrow : IOwn w p.lo (.slice (some ⟨g, 0, none⟩) W.length cap) W := by
       refine ⟨by simp, .inr ⟨g, cap, cur, rfl, hbg, hh, by omega, h2, h3, ?_⟩⟩
       have := congrArg (List.take W.length) h4
       rw [List.take_take, e] at this
       rw [show min W.length ((W.length + 1) * 1) = W.length * 1 by omega] at this
       rw [this]
       simp
     exact own_kp hrow hs (fun k r => by
       have : g = k := by simpa [Value.ownBlock] using r
       rw [← this]; exact hgn.1)
   · intro k r
     have : g = k := by simpa [Value.ownBlock] using r
     rw [← this]; exact hgn
theorem CS.nil {p : CP} {L : List Ins} {w : World} {v : Value} {s : Nat → Bool} (h : CS p L w v s []) : ∃ a cap, v = .slice a 0 cap := by
 rcases h.row.2 with ⟨rfl, h0⟩ | ⟨g, cap, cur, rfl, _⟩
 · exact ⟨none, 0, rfl⟩
 · exact ⟨_, cap, rfl⟩
def lenAt (w : World) (k : Nat) : Nat := match w.cell? ⟨k, 0, none⟩ with | some (.slice _ n _) => n | _ => 0
end F
end Go.Proofs.YtfidlchgmgmcbaaGreatDoor


namespace Go.Proofs.YtfidlchgmgmcbaaGreatDoor
set_option maxRecDepth 100000
set_option maxHeartbeats 40000000
namespace F
open Go.RowKit
open T

theorem own_slice {w : World} {b : Nat} {v : Value} {E : List Int} (h : IOwn w b v E) : ∃ a cap, v = .slice a E.length cap := by
 rcases h.2 with ⟨rfl, h0⟩ | ⟨g, cap, cur, rfl, _⟩
 · exact ⟨none, 0, by rw [h0]⟩
 · exact ⟨_, cap, rfl⟩
def comeP (h cc bw : Nat) (ca : Option Addr) : CP := ⟨h + 2, bw, h + 4, h, bw + 1, h + 3, cc, ca⟩
theorem come_start {L : List Ins} {E : List Int} {cc : Nat} {ca : Option Addr} {w w1 w3 w4 : World} {v : Value} {s : Nat → Bool} {t1 t2 t3 t4 t5 : TypeId} {rb : Array Value}
   (hL : LIn w.heap.size w ca L)
   (a0 : Below (w.heap.size + 2) ((w.alloc (.cells #[.slice ca L.length cc] t1)).alloc (.cells rb t2)) w1) (a3 : w1.heap.size = w.heap.size + 4)
   (b1 : SIn w3 (w.heap.size + 3) L.length s) (b2 : Kp (fun k => k = w.heap.size + 3) (w1.alloc (.cells #[.slice (some ⟨w.heap.size + 3, 0, none⟩) ((L.length + 63) / 64) ((L.length + 63) / 64), .int .i64 L.length] t3)) w3)
   (c1 : IOwn w4 w3.heap.size v E) (c2 : Below w3.heap.size w3 w4) :
   CS (comeP w.heap.size cc w4.heap.size ca) L ((w4.alloc (.cells #[v] t4)).alloc (.cells #[(comeP w.heap.size cc w4.heap.size ca).fv] t5)) v s E ∧ Below w.heap.size w ((w4.alloc (.cells #[v] t4)).alloc (.cells #[(comeP w.heap.size cc w4.heap.size ca).fv] t5)) ∧ At ((w4.alloc (.cells #[v] t4)).alloc (.cells #[(comeP w.heap.size cc w4.heap.size ca).fv] t5)) (w.heap.size + 1) rb := by
 have s3 := b2.size
 rw [World.size_alloc, a3] at s3
 have s4 := c2.size
 generalize hsb : (Obj.cells #[.slice (some ⟨w.heap.size + 3, 0, none⟩) ((L.length + 63) / 64) ((L.length + 63) / 64), .int .i64 L.length] t3) = sb at *
 have B1 : Below (w.heap.size + 2) w1 w3 := ((Below.refl _ w1).alloc (by omega) sb).trans (b2.below (by rw [World.size_alloc]; omega) (fun k q => by omega))
 have B2 : Below (w.heap.size + 2) w1 w4 := B1.trans (c2.mono (by omega))
 have B3 : Below (w.heap.size + 2) ((w.alloc (.cells #[.slice ca L.length cc] t1)).alloc (.cells rb t2)) w4 := a0.trans B2
 have B5 : Below w4.heap.size w4 ((w4.alloc (.cells #[v] t4)).alloc (.cells #[(comeP w.heap.size cc w4.heap.size ca).fv] t5)) := ((Below.refl _ w4).alloc (Nat.le_refl _) _).alloc (by rw [World.size_alloc]; omega) _
 have B6 := B3.trans (B5.mono (by omega))
 have ic := at_below ((At.new w #[.slice ca L.length cc] t1).alloc (.cells rb t2)) B6 (by omega)
 have ir := at_below (At.next w (.cells #[.slice ca L.length cc] t1) rb t2) B6 (by omega)
 have isn : At (w1.alloc sb) (w.heap.size + 4) #[.slice (some ⟨w.heap.size + 3, 0, none⟩) ((L.length + 63) / 64) ((L.length + 63) / 64), .int .i64 L.length] := by
   rw [← hsb]; exact At.at_ w1 _ _ a3
 have is3 := at_below (at_below (at_kp isn b2 (by omega)) c2 (by omega)) B5 (by omega)
 have row : IOwn ((w4.alloc (.cells #[v] t4)).alloc (.cells #[(comeP w.heap.size cc w4.heap.size ca).fv] t5)) (w.heap.size + 2) v E := by
   have := own_below c1 B5
   refine ⟨this.1, ?_⟩
   rcases this.2 with h2 | ⟨g, cap, cur, hv, hbg, rest⟩
   · exact .inl h2
   · exact .inr ⟨g, cap, cur, hv, by omega, rest⟩
 have BW : Below w.heap.size w ((w4.alloc (.cells #[v] t4)).alloc (.cells #[(comeP w.heap.size cc w4.heap.size ca).fv] t5)) := Below.trans (((Below.refl _ w).alloc (Nat.le_refl _) _).alloc (by rw [World.size_alloc]; omega) _) (B6.mono (by omega))
 refine ⟨⟨(At.new w4 #[v] t4).alloc _, row, is3, ic, At.next w4 _ _ _, (b1.below c2 (by omega)).below B5 (by omega), (hL.below BW).mono (by simp [comeP]), ?_, ?_, ?_⟩, BW, ir⟩
 · simp only [comeP]
   refine ⟨?_, ?_, ?_, ?_, ?_, ?_, ?_⟩ <;> omega
 · intro g r
   have h1 := World.ownsRow.lt c1 g r
   simp only [comeP]
   refine ⟨?_, ?_, ?_, ?_, ?_⟩ <;> omega
 · exact ⟨by simp only [comeP]; omega, by simp only [comeP]; omega, by show w.heap.size + 2 ≤ _; have := B5.size; omega⟩
def OI (p : CP) (L : List Ins) (E : List Int) (out : Int) (w wr : World) : Prop := Hid (∃ v s W, CS p L wr v s W ∧ Ot L E out s W ∧ Below w.heap.size w wr ∧ At wr (w.heap.size + 1) #[.slice none 0 0, .int .i64 0])
theorem comeTo_any (L : List Ins) (E : List Int) (cc ec : Nat) (ca ea : Option Addr) (out : Int) (w : World) (hL : LIn w.heap.size w ca L) (hE : NIn w.heap.size w ea E) (hnil : NilOk ea E.length ec) (hn : L.length < 2000000) (he : E.length ≤ 4000000) :
   Calls Tryz.prog 27 #[.slice ca L.length cc, .slice ea E.length ec, .int .i64 out] w fun e w' => ∃ X s, e = .returned (sv X L.length) ∧ SIn w' X L.length s ∧ w.heap.size ≤ X ∧ Below w.heap.size w w' ∧ ∀ q, q < L.length → (s q = true ↔ Rch L E out q ∨ (q : Int) = out) := by
 have hN := newSet_any L.length ((w.alloc (.cells #[.slice ca L.length cc] 49)).alloc (.cells #[.slice none 0 0, .int .i64 0] 94)) hn
 simp only [World.size_alloc, Nat.add_assoc] at hN
 have hA := fun W (q : SIn W (w.heap.size + 3) L.length (fun _ => false)) => add_any (w.heap.size + 3) L.length (fun _ => false) out W q hn
 have hCl := fun W (q : Below w.heap.size w W) => clone_any ea ec E W ((hE.below q).mono q.size) hnil he
 have hmf : ∀ (fn : Fn) (first cap : Array Value) (w : World), (Instr.makeFunc fn first cap).run Tryz.prog w = .ok (.func fn first cap) w := fun _ _ _ _ => rfl
 unfold sv at *
 replace hN := Hid.mk hN
 replace hA := Hid.mk hA
 replace hCl := Hid.mk hCl
 replace hL := Hid.mk hL
 replace hE := Hid.mk hE
 replace hnil := Hid.mk hnil
 go_enter Tryz.func27, Tryz.ntmps27
 go_wp2_with (first | (go_at_call 29; refine hN.out.mono ?_; rintro x w1 ⟨rfl, a1, a2, a3⟩; replace a1 := Hid.mk a1; replace a2 := Hid.mk a2) | (go_at_call 30; refine (hA.out _ (a1.out.below ((Below.refl _ w1).alloc (Nat.le_refl _) _) (by omega))).mono ?_; rintro x w3 ⟨rfl, b1, b2⟩; have b3 : Hid (Below w.heap.size w w3) := Hid.mk (Below.trans (((Below.refl _ w).alloc (Nat.le_refl _) _).alloc (by simp) _) ((a2.out.mono (by omega)).trans (Below.trans ((Below.refl _ w1).alloc (by omega) _) (b2.below (by simp; omega) (fun k q => by omega))))); replace b1 := Hid.mk b1; replace b2 := Hid.mk b2) | (go_at_call 55; refine (hCl.out _ b3.out).mono ?_; rintro x w4 ⟨v, rfl, c1, c2⟩; obtain ⟨va, vc, rfl⟩ := own_slice c1; replace c1 := Hid.mk c1; replace c2 := Hid.mk c2))
 obtain ⟨d1, d2, d3⟩ := come_start (t1 := 49) (t2 := 94) (t3 := 94) (t4 := 58) (t5 := 134) (rb := #[.slice none 0 0, .int .i64 0]) hL.out a2.out a3 b1.out b2.out c1.out c2.out
 have h0 : OI (comeP w.heap.size cc w4.heap.size ca) L E out w ((w4.alloc (.cells #[.slice va E.length vc] 58)).alloc (.cells #[(comeP w.heap.size cc w4.heap.size ca).fv] 134)) := Hid.mk ⟨_, _, E, d1, Ot.start L E out, d2, d3⟩
 clear d1 d2 d3 b3
 simp only [comeP, CP.fv] at h0
 generalize w4.heap.size = bw at *
 go_loopw [10] (fun _ wr => OI (comeP w.heap.size cc bw ca) L E out w wr) (fun _ wr => 2 * (L.length - cnt L.length (setOf wr (w.heap.size + 3))) + lenAt wr bw)
 case atStart => exact h0
 case round =>
   clear h0
   obtain ⟨v1, s1, W, hC, hO, hB, hR⟩ := hrel.out
   have hm := cnt_set hC.st
   obtain ⟨z1, z2, z3, z4, z5⟩ := hC.boxes
   rcases List.eq_nil_or_concat W with rfl | ⟨W0, y, rfl⟩
   · obtain ⟨a0, cap, rfl⟩ := hC.nil
     simp only [comeP, CP.fv] at z1 z2 z3 z4 z5
     have hS := Hid.mk hC.st
     have r0 : wr.cell? ⟨w.heap.size + 1, 0, none⟩ = some (.slice none 0 0) := hR.2.1 0
     have r1 : wr.cell? ⟨w.heap.size + 1, 1, none⟩ = some (.int .i64 0) := hR.2.1 1
     have r2 := hR.2.2
     have r3 := hR.1
     have hstop := Hid.mk hO.stop
     replace hC := Hid.mk hC
     replace hO := Hid.mk hO
     replace hB := Hid.mk hB
     replace hR := Hid.mk hR
     clear hrel
     go_wp2_with fail
     have hF : ∀ a b, SIn ((wr.setCell ⟨w.heap.size + 1, 0, none⟩ a).setCell ⟨w.heap.size + 1, 1, none⟩ b) (w.heap.size + 3) L.length s1 ∧ Below w.heap.size w ((wr.setCell ⟨w.heap.size + 1, 0, none⟩ a).setCell ⟨w.heap.size + 1, 1, none⟩ b) := fun a b =>
       ⟨sin_kp (sin_kp hS.out (Kp.set (S := fun k => k = w.heap.size + 1) wr _ a rfl) (by simp)) (Kp.set (S := fun k => k = w.heap.size + 1) _ _ b rfl) (by simp), (hB.out.setCell (by simp) a).setCell (by simp) b⟩
     simp [bodyPost, results, Tryz.results27, go_sem, r0, r1]
     exact ⟨s1, (hF _ _).1, (hF _ _).2, hstop.out⟩
   · rw [List.concat_eq_append] at hC hO
     obtain ⟨g, cap, rfl, p1, p2, p3, p4, p5, p6⟩ := hC.pop
     have hlw : lenAt wr bw = W0.length + 1 := by
       have : wr.cell? ⟨bw, 0, none⟩ = _ := z1
       simp [lenAt, this]
     simp only [comeP, CP.fv] at z1 z5
     have hq := walk_any (comeP w.heap.size cc bw ca) L out hn (L.length - cnt L.length s1) s1 W0 _ y 0 _ p5 hO.out (Nat.le_refl _) (by omega) (by have := hO.len; simp at this; omega)
     simp only [comeP] at hq
     have z5' : (wr.setCell ⟨bw, 0, none⟩ (.slice (some ⟨g, 0, none⟩) W0.length cap)).cell? ⟨bw + 1, 0, none⟩ = _ := p5.boxes.2.2.2.2
     simp only [comeP, CP.fv] at z5'
     have hfr : wr.frozen? ⟨bw, 0, none⟩ = false := hC.iw.2.2 0
     have hWl : W0.length < 8000000 := by have := hO.len; simp at this; omega
     have hp1 : (W0.length : Int) + 1 ≤ cap := by omega
     have hc2 : ¬ (cap : Int) < W0.length := by omega
     have hstep := fun s' D (q : Wf L out 0 s1 y s' D) => hO.step q
     replace hq := Hid.mk hq
     replace hC := Hid.mk hC
     replace hO := Hid.mk hO
     replace hB := Hid.mk hB
     replace hR := Hid.mk hR
     replace p5 := Hid.mk p5
     replace p6 := Hid.mk p6
     replace hstep := Hid.mk hstep
     clear hrel z2 z3 z4 z5
     go_wp2_with (go_at_call 56; refine hq.out.mono ?_; rintro x w6 ⟨rfl, v6, s6, D6, k1, k2, k3⟩)
     have hlo : w.heap.size + 2 ≤ bw := hC.out.lo.2.1
     have m1 : cnt L.length (setOf w6 (w.heap.size + 3)) = cnt L.length s6 := cnt_set k1.st
     have m2 : cnt L.length (setOf wr (w.heap.size + 3)) = cnt L.length s1 := hm
     have m3 := k2.ct
     have m4 := cnt_le L.length s6
     have m5 : lenAt w6 bw = W0.length + D6.length := by
       obtain ⟨va6, vc6, e6⟩ := own_slice k1.row
       have : w6.cell? ⟨bw, 0, none⟩ = some v6 := k1.boxes.1
       rw [e6] at this
       simp [lenAt, this]
     refine ⟨Hid.mk ⟨v6, s6, W0 ++ D6, k1, hstep.out s6 D6 k2, (hB.out.trans (p6.out.mono (by simp [comeP]))).trans (k3.mono (by omega)), at_below (hR.out.set_other _ (by omega)) k3 (by omega)⟩, ?_⟩
     rw [m1, m2, m5, hlw]
     simp at m3
     omega
end F
end Go.Proofs.YtfidlchgmgmcbaaGreatDoor
