/-
  Stage 8, flow: comeTo.
-/
import Derived.Test.YtjmknpkmbghgdaaFWalkB
import Derived.Deep.AppendSrc
namespace Go.Proofs.Ytjmknpkmbghgdaa
namespace F
open Go.RowKit
open T

/-- A slice of numbers, below block 'B', that can be read. -/
def NIn (B : Nat) (w : World) (a : Option Addr) (E : List Int) : Prop := ∀ i (h : i < E.length), ∃ b off : Nat, a = some ⟨b, off, none⟩ ∧ b < B ∧ b < w.heap.size ∧ w.cell? ⟨b, off + i, none⟩ = some (.int .i64 E[i])
theorem NIn.below {B : Nat} {w w1 : World} {a : Option Addr} {E : List Int} (h : NIn B w a E) (hb : Below B w w1) : NIn B w1 a E := fun i hi => by
  obtain ⟨b, off, ha, h1, h2, h3⟩ := h i hi
  exact ⟨b, off, ha, h1, Nat.lt_of_lt_of_le h2 hb.size, (hb.cell (p := ⟨b, _, none⟩) h1).trans h3⟩
theorem NIn.mono {B B' : Nat} {w : World} {a : Option Addr} {E : List Int} (h : NIn B w a E) (hb : B ≤ B') : NIn B' w a E := fun i hi => by
  obtain ⟨b, off, ha, h1, h2, h3⟩ := h i hi
  exact ⟨b, off, ha, Nat.lt_of_lt_of_le h1 hb, h2, h3⟩
/-- A slice of numbers is nil, or it lies somewhere. -/
def NilOk (a : Option Addr) (n c : Nat) : Prop := a = none → n = 0 ∧ c = 0
theorem wpList_append_nums {ops : Array Oper} {rest : List Oper} {o : Oper} {a : Act} {Q : Exit → Act → World → Prop} {w : World} (hgd : o.guard = none) (s x : Operand)
    (ho : o.op = .call { callee := .builtin .append, args := #[s, x], argTypes := #[23, 23] })
    (base : Nat) (v : Value) (L M : List Int) (hs : a.eval s = v) (hL : IOwn w base v L)
    (ad : Addr) (c : Nat) (hx : a.eval x = .slice (some ad) M.length c) (B : Nat) (hM : NIn B w (some ad) M) (hlen : L.length + M.length ≤ 8000000) (hbase : base ≤ w.heap.size)
    (h : ∀ v' w', IOwn w' base v' (L ++ M) → w.grownBy w' v.ownBlock → (v'.ownBlock = v.ownBlock ∨ v'.ownBlock = some w.heap.size) → wpList Try.prog ops Q rest (a.put o.dst v') w') :
    wpList Try.prog ops Q (o :: rest) a w := by
  obtain ⟨i0, hi, hz0, hz1, hz2⟩ := info_parts' (t := 3) (z := .int .i64 0) (s := 1) (b := 8) (by kernel_rfl)
  refine wpList_append_own_at _ hgd s x 23 ho base 3 i0 (.int .i64 0) 1 8 Try.underlying23 hi hz0 hz1 hz2 rfl (by decide)
    v L.length (L.map (Value.int .i64)) hs hL ad M.length c (M.map (Value.int .i64)) hx (by simp) (fun j u hj => ?_) (fun u hu => ?_) (by unfold maxLen; omega) (by omega) hbase ?_
  · have hjl : j < M.length := by
      have := (List.getElem?_eq_some_iff.1 hj).1
      simpa using this
    obtain ⟨b, off, e, _, _, hc⟩ := hM j hjl
    cases e
    rw [addr_add, hc, ← hj]
    simp [hjl]
  · obtain ⟨y, _, rfl⟩ := List.mem_map.1 hu
    rfl
  · intro v' w' h1 h2 _ h4
    refine h v' w' ?_ h2 h4
    unfold IOwn
    rw [List.length_append, List.map_append]
    exact h1
set_option maxRecDepth 100000 in
theorem eql_some (ad : Addr) (n c : Nat) (W : World) : (binOp .eql 23 (.slice (some ad) n c) (.slice none 0 0)).run Try.prog W = .ok (.bool false) W := rfl
set_option maxRecDepth 100000 in
theorem eql_none (n c : Nat) (W : World) : (binOp .eql 23 (.slice none n c) (.slice none 0 0)).run Try.prog W = .ok (.bool true) W := rfl
set_option maxHeartbeats 1000000 in
theorem clone_any (a : Option Addr) (c : Nat) (E : List Int) (w : World) (hE : NIn w.heap.size w a E) (hn : NilOk a E.length c) (hl : E.length ≤ 4000000) :
    Calls Try.prog 46 #[.slice a E.length c] w fun e w' => ∃ v, e = .returned v ∧ IOwn w' w.heap.size v E ∧ Below w.heap.size w w' := by
  cases a with
  | none =>
    obtain ⟨h0, rfl⟩ := hn rfl
    have e0 : E = [] := List.length_eq_zero_iff.1 h0
    subst e0
    have eq0 := eql_none 0 0
    simp only [List.length_nil]
    clear hE hn
    go_enter Try.func46, Try.ntmps46
    go_wp2_with fail
    go_ret
    exact ⟨_, rfl, ⟨rfl, .inl ⟨rfl, rfl⟩⟩, Below.refl _ _⟩
  | some ad =>
    have eq0 := eql_some ad E.length c
    have hO : IOwn (w.alloc (.cells #[] 3)) w.heap.size (.slice (some ⟨w.heap.size, 0, none⟩) 0 0) [] := ⟨rfl, .inr ⟨w.heap.size, 0, #[], rfl, Nat.le_refl _, (MapKept.heap_alloc w _).1, Nat.le_refl _, by simp [maxLen], rfl, rfl⟩⟩
    have hM : NIn w.heap.size (w.alloc (.cells #[] 3)) (some ad) E := hE.below (by (repeat (first | assumption | with_reducible exact Below.refl _ _ | with_reducible refine Below.alloc ?_ (by simp <;> omega) _ | with_reducible refine Below.setCell ?_ (by simp <;> omega) _ | with_reducible refine Below.drew ?_)))
    replace hE := Hid.mk hE
    replace hO := Hid.mk hO
    replace hM := Hid.mk hM
    clear hn
    go_enter Try.func46, Try.ntmps46
    go_wp2_with (at_builtin; refine wpList_append_nums rfl (.tmp 5) (.tmp 6) rfl w.heap.size (.slice (some ⟨w.heap.size, 0, none⟩) 0 0) [] E rfl hO.out ad c rfl w.heap.size hM.out (by simp; omega) (by simp) ?_)
    intro v' w' g1 g2 g3
    replace g1 := Hid.mk g1
    have g4 : Hid (Below w.heap.size w w') := Hid.mk (Below.trans (((Below.refl _ w).alloc (Nat.le_refl _) _)) (Below.of_grown g2 (by simp) (fun k r => by simp [Value.ownBlock] at r; omega)))
    clear g2 g3
    go_wp2_with fail
    go_ret
    exact ⟨_, rfl, by simpa using g1.out, g4.out⟩
/-- What is come to, with what waits. -/
structure Ot (L : List Ins) (E : List Int) (out : Int) (s : Nat → Bool) (W : List Int) : Prop where
  ent : ∀ e ∈ E, thB L.length e = true → s e.toNat = true ∨ e ∈ W
  clo : ∀ p q, s p = true → (p : Int) ≠ out → folB L p q = true → s q = true ∨ (q : Int) ∈ W
  snd : ∀ q, q < L.length → s q = true → Rch L E out q ∨ (q : Int) = out
  snw : ∀ d ∈ W, thB L.length d = true → d ≠ out → Rch L E out d.toNat
  out : thB L.length out = true → s out.toNat = true
  len : W.length + (L.length - cnt L.length s) ≤ E.length + L.length
theorem Ot.start (L : List Ins) (E : List Int) (out : Int) : Ot L E out (adS (fun _ => false) out) E := by
  refine ⟨fun e he _ => .inr he, fun p q h1 h2 _ => ?_, fun q _ h => ?_, fun d hd h1 h2 => ?_, fun h => ?_, by omega⟩
  · simp [adS] at h1; exact absurd h1 h2
  · simp [adS] at h; exact .inr h
  · obtain ⟨n, rfl, hn⟩ := thB_elim h1
    exact Rch.base hd (by simpa using hn) h2
  · obtain ⟨n, rfl, hn⟩ := thB_elim h
    simp [adS]
theorem Ot.step {L : List Ins} {E W D : List Int} {out pc : Int} {s s1 : Nat → Bool} (h : Ot L E out s (W ++ [pc])) (f : Wf L out 0 s pc s1 D) : Ot L E out s1 (W ++ D) := by
  have hpc : thB L.length pc = true → pc ≠ out → Rch L E out pc.toNat := h.snw pc (by simp)
  obtain ⟨g1, g2⟩ := f.snd (Rch L E out) (fun p q a b c => Rch.step a b c) hpc
  refine ⟨fun e he ht => ?_, fun p q h1 h2 h3 => ?_, fun q hq h1 => ?_, fun d hd => ?_, fun ht => ?_, ?_⟩
  · obtain ⟨n, rfl, hn⟩ := thB_elim ht
    rcases h.ent _ he ht with r | r
    · exact .inl (f.mono _ (by simpa using hn) r)
    · rcases List.mem_append.1 r with r | r
      · exact .inr (by simp [r])
      · rw [List.mem_singleton] at r
        rw [← r] at f
        rcases f.cov ht with t | t
        · exact .inl t
        · exact .inr (by simp [t])
  · cases e : s p with
    | true =>
      rcases h.clo p q e h2 h3 with r | r
      · exact .inl (f.mono _ (folB_lt h3) r)
      · rcases List.mem_append.1 r with r | r
        · exact .inr (by simp [r])
        · rw [List.mem_singleton] at r
          have := f.cov (by rw [← r, thB_nat]; exact folB_lt h3)
          rw [← r] at this
          rcases this with t | t
          · exact .inl (by simpa using t)
          · exact .inr (by simp [t])
    | false =>
      rcases f.clo p q h1 e h3 with r | r
      · exact .inl r
      · exact .inr (by simp [r])
  · rcases g1 q hq h1 with r | r
    · exact h.snd q hq r
    · exact .inl r
  · rcases List.mem_append.1 hd with r | r
    · exact h.snw d (by simp [r])
    · exact g2 d r
  · obtain ⟨n, rfl, hn⟩ := thB_elim ht
    exact f.mono _ (by simpa using hn) (h.out ht)
  · have h1 := h.len
    have h2 := f.ct
    have h3 := cnt_le L.length s1
    simp only [List.length_append, List.length_singleton] at h1 ⊢
    omega
theorem Ot.stop {L : List Ins} {E : List Int} {out : Int} {s : Nat → Bool} (h : Ot L E out s []) : ∀ q, q < L.length → (s q = true ↔ Rch L E out q ∨ (q : Int) = out) := by
  intro q hq
  refine ⟨h.snd q hq, fun r => ?_⟩
  rcases r with r | r
  · clear hq
    induction r with
    | base h1 h2 h3 =>
      rcases h.ent _ h1 (thB_nat.2 h2) with r | r
      · simpa using r
      · simp at r
    | step h1 h2 h3 ih =>
      rcases h.clo _ _ ih h1.ne h2 with r | r
      · exact r
      · simp at r
  · have := h.out (by rw [← r, thB_nat]; exact hq)
    rw [← r] at this
    simpa using this
theorem CS.pop {p : CP} {L : List Ins} {w : World} {v : Value} {s : Nat → Bool} {W : List Int} {y : Int} (h : CS p L w v s (W ++ [y])) :
    ∃ g cap, v = .slice (some ⟨g, 0, none⟩) (W.length + 1) cap ∧ W.length + 1 ≤ cap ∧ g < w.heap.size ∧ g ≠ p.bw ∧ w.cell? ⟨g, W.length, none⟩ = some (.int .i64 y) ∧ CS p L (w.setCell ⟨p.bw, 0, none⟩ (.slice (some ⟨g, 0, none⟩) W.length cap)) (.slice (some ⟨g, 0, none⟩) W.length cap) s W ∧ Below p.lo w (w.setCell ⟨p.bw, 0, none⟩ (.slice (some ⟨g, 0, none⟩) W.length cap)) := by
  have hr := h.row
  have e : (W ++ [y]).length = W.length + 1 := by simp
  rcases hr.2 with ⟨_, h0⟩ | ⟨g, cap, cur, rfl, hbg, hh, h1, h2, h3, h4⟩
  · simp at h0
  · have hgl : g < w.heap.size := (Array.getElem?_eq_some_iff.1 hh).1
    have hgn := h.nv g rfl
    have hs : Kp (fun k => k = p.bw) w (w.setCell ⟨p.bw, 0, none⟩ (.slice (some ⟨g, 0, none⟩) W.length cap)) := Kp.set (S := fun k => k = p.bw) w _ _ rfl
    have hB : Below p.lo w (w.setCell ⟨p.bw, 0, none⟩ (.slice (some ⟨g, 0, none⟩) W.length cap)) := (Below.refl _ _).setCell h.lo.2.1 _
    obtain ⟨n1, n2, n3, n4, n5, n6, n7⟩ := h.ne
    have hc := World.ownsRow.cells hr (g := g) rfl W.length (.int .i64 y) (by simp)
    rw [addr_add, Nat.zero_add] at hc
    refine ⟨g, cap, by rw [e], by omega, hgl, hgn.1, hc, ⟨?_, ?_, at_kp h.is_ hs (fun r => n1 r.symm), at_kp h.ic hs (fun r => n2 r.symm), at_kp h.ik hs (fun r => n3 r.symm), sin_kp h.st hs (fun r => n4 r.symm), h.co.below hB, h.ne, ?_, h.lo.1, h.lo.2.1, by simpa using h.lo.2.2⟩, hB⟩
    · have := h.iw.set 0 (.slice (some ⟨g, 0, none⟩) W.length cap) (by simp)
      simpa using this
    · have hrow : IOwn w p.lo (.slice (some ⟨g, 0, none⟩) W.length cap) W := by
        refine ⟨by simp, .inr ⟨g, cap, cur, rfl, hbg, hh, by omega, h2, h3, ?_⟩⟩
        have := congrArg (List.take W.length) h4
        rw [List.take_take, e] at this
        rw [show min W.length ((W.length + 1) * 1) = W.length * 1 by omega] at this
        rw [this]
        simp
      exact own_kp hrow hs (fun k r => by
        have : g = k := by simpa [Value.ownBlock] using r
        rw [← this]; exact hgn.1)
    · intro k r
      have : g = k := by simpa [Value.ownBlock] using r
      rw [← this]; exact hgn
theorem CS.nil {p : CP} {L : List Ins} {w : World} {v : Value} {s : Nat → Bool} (h : CS p L w v s []) : ∃ a cap, v = .slice a 0 cap := by
  rcases h.row.2 with ⟨rfl, h0⟩ | ⟨g, cap, cur, rfl, _⟩
  · exact ⟨none, 0, rfl⟩
  · exact ⟨_, cap, rfl⟩
def lenAt (w : World) (k : Nat) : Nat := match w.cell? ⟨k, 0, none⟩ with | some (.slice _ n _) => n | _ => 0
end F
end Go.Proofs.Ytjmknpkmbghgdaa
