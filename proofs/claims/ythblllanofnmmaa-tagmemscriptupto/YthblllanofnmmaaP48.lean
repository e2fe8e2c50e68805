import Derived.Test.YthblllanofnmmaaUStpA
import Derived.Test.YthblllanofnmmaaUStpB
import Derived.Test.YthblllanofnmmaaUStpC
import Derived.Test.YthblllanofnmmaaUStpD
/-
  Stage 6, TagmemScript: a step on a pair.
-/
namespace Go.Proofs.Ythblllanofnmmaa
namespace U
open Go.RowKit
open B
open T (Sep Ob Kp Mf TgIn DIn Rel Cp Vl UOwn tgOb boxOb)

theorem step_any (B kb K a d : Nat) (b : Nat → UInt8) (t : Nat → Option Cp) (g : Nat → Bool) (c : Nat → Cp) (l : List Ob) (x : T.Po) (w : World) (h : Ps B w kb K a d b b t g c l) (hr : Rel t g c) (ho : x.Ok) (hK : K + 2 ≤ 1048575) :
    Calls Try.prog 9 #[.agg #[.pointer (some ⟨a, 0, none⟩), .pointer (some ⟨d, 0, none⟩)], .agg #[.int .i64 x.m, .int .i64 x.k, .int .u64 x.a, .int .u64 x.z, .int .u64 x.n, .bool x.v.g, .int .u64 x.v.n, .int .u64 x.v.c.b, .int .u64 x.v.c.e, .int .u64 x.v.c.c, .int .u8 x.v.c.p, .int .i64 x.v.c.s], .pointer (some ⟨kb, 0, none⟩)] w fun r w' => r = .returned (.bool true) ∧ ∃ K' b' t' g' c', Ps B w' kb K' a d b' b' t' g' c' l ∧ Rel t' g' c' ∧ K' ≤ K + 2 ∧ Below B w w' := by
  by_cases n1 : x.k = 1
  · exact step1 B kb K a d b t g c l x w h hr ho hK n1
  by_cases n2 : x.k = 2
  · exact step2 B kb K a d b t g c l x w h hr ho hK n2
  by_cases n3 : x.k = 3
  · exact step3 B kb K a d b t g c l x w h hr ho hK n3
  by_cases n4 : x.k = 4
  · exact step4 B kb K a d b t g c l x w h hr ho hK n4
  by_cases n5 : x.k = 5
  · exact step5 B kb K a d b t g c l x w h hr ho hK n5
  by_cases n6 : x.k = 6
  · exact step6 B kb K a d b t g c l x w h hr ho hK n6
  exact step0 B kb K a d b t g c l x w h hr ho hK n1 n2 n3 n4 n5 n6
end U
end Go.Proofs.Ythblllanofnmmaa


/-
  Stage 6, TagmemScript: two pairs of memories and the book.
-/
namespace Go.Proofs.Ythblllanofnmmaa
namespace U
open Go.RowKit
open B
open T (Sep Ob Kp Mf TgIn DIn Rel Cp Vl UOwn tgOb boxOb)

def selU {α : Type} (M : Nat) (x y : α) : α := if M = 0 then x else y
structure Ss (w W : World) (a1 a2 d1 d2 kl kb K : Nat) : Prop where
  go : ∃ b1 b2 t1 t2 g1 c1 g2 c2 D1 X1 D2 X2 SB, Sep w.heap.size W [bkOb SB w.heap.size kb K, dOb D1 d1 b1 g1 c1, tgOb X1 a1 b1 t1, dOb D2 d2 b2 g2 c2, tgOb X2 a2 b2 t2, boxOb kl #[.pointer (some ⟨a1, 0, none⟩), .pointer (some ⟨d1, 0, none⟩), .pointer (some ⟨a2, 0, none⟩), .pointer (some ⟨d2, 0, none⟩)]] ∧ Rel t1 g1 c1 ∧ Rel t2 g2 c2
  be : Below w.heap.size w W
section
variable {w W W' : World} {a1 a2 d1 d2 kl kb K : Nat}
theorem Ss.gr (h : Ss w W a1 a2 d1 d2 kl kb K) (hb : Below W.heap.size W W') : Ss w W' a1 a2 d1 d2 kl kb K := by
  obtain ⟨⟨b1, b2, t1, t2, g1, c1, g2, c2, D1, X1, D2, X2, SB, q, r⟩, be⟩ := h
  exact ⟨⟨b1, b2, t1, t2, g1, c1, g2, c2, D1, X1, D2, X2, SB, q.gr hb, r⟩, be.trans (hb.mono be.size)⟩
theorem Ss.box (h : Ss w W a1 a2 d1 d2 kl kb K) : At W kl #[.pointer (some ⟨a1, 0, none⟩), .pointer (some ⟨d1, 0, none⟩), .pointer (some ⟨a2, 0, none⟩), .pointer (some ⟨d2, 0, none⟩)] := by
  obtain ⟨⟨b1, b2, t1, t2, g1, c1, g2, c2, D1, X1, D2, X2, SB, q, r⟩, be⟩ := h
  exact q.ins (boxOb kl #[.pointer (some ⟨a1, 0, none⟩), .pointer (some ⟨d1, 0, none⟩), .pointer (some ⟨a2, 0, none⟩), .pointer (some ⟨d2, 0, none⟩)]) (by simp)
theorem Ss.pair (h : Ss w W a1 a2 d1 d2 kl kb K) (M : Nat) (hM : M < 2) : W.rangeAt kl (M * 2) [.pointer (some ⟨selU M a1 a2, 0, none⟩), .pointer (some ⟨selU M d1 d2, 0, none⟩)] := by
  have A := h.box
  intro j v q
  match M, hM, j, q with
  | 0, _, 0, q => cases q; exact A.2.1 0
  | 0, _, 1, q => cases q; exact A.2.1 1
  | 1, _, 0, q => cases q; exact A.2.1 2
  | 1, _, 1, q => cases q; exact A.2.1 3
theorem Ss.step (h : Ss w W a1 a2 d1 d2 kl kb K) (M : Nat) (hM : M < 2) (x : T.Po) (ho : x.Ok) (hK : K + 2 ≤ 1048575) :
    Calls Try.prog 9 #[.agg #[.pointer (some ⟨selU M a1 a2, 0, none⟩), .pointer (some ⟨selU M d1 d2, 0, none⟩)], .agg #[.int .i64 x.m, .int .i64 x.k, .int .u64 x.a, .int .u64 x.z, .int .u64 x.n, .bool x.v.g, .int .u64 x.v.n, .int .u64 x.v.c.b, .int .u64 x.v.c.e, .int .u64 x.v.c.c, .int .u8 x.v.c.p, .int .i64 x.v.c.s], .pointer (some ⟨kb, 0, none⟩)] W fun r w' => r = .returned (.bool true) ∧ ∃ K', K' ≤ K + 2 ∧ Ss w w' a1 a2 d1 d2 kl kb K' := by
  obtain ⟨⟨b1, b2, t1, t2, g1, c1, g2, c2, D1, X1, D2, X2, SB, q, r1, r2⟩, be⟩ := h
  match M, hM with
  | 0, _ =>
    refine (step_any w.heap.size kb K a1 d1 b1 t1 g1 c1 [dOb D2 d2 b2 g2 c2, tgOb X2 a2 b2 t2, boxOb kl #[.pointer (some ⟨a1, 0, none⟩), .pointer (some ⟨d1, 0, none⟩), .pointer (some ⟨a2, 0, none⟩), .pointer (some ⟨d2, 0, none⟩)]] x W ⟨⟨SB, D1, X1, q⟩, be.size⟩ r1 ho hK).mono ?_
    rintro r w' ⟨rfl, K', b', t', g', c', ⟨⟨SB', D', X', q'⟩, _⟩, r', hK', hB⟩
    exact ⟨rfl, K', hK', ⟨⟨b', b2, t', t2, g', c', g2, c2, D', X', D2, X2, SB', q', r', r2⟩, be.trans hB⟩⟩
  | 1, _ =>
    have p : ∀ (o1 o2 o3 o4 o5 o6 : Ob), [o1, o2, o3, o4, o5, o6].Perm [o1, o4, o5, o2, o3, o6] := fun o1 o2 o3 o4 o5 o6 => .cons o1 ((List.perm_append_comm (l₁ := [o2, o3]) (l₂ := [o4, o5])).append_right [o6])
    refine (step_any w.heap.size kb K a2 d2 b2 t2 g2 c2 [dOb D1 d1 b1 g1 c1, tgOb X1 a1 b1 t1, boxOb kl #[.pointer (some ⟨a1, 0, none⟩), .pointer (some ⟨d1, 0, none⟩), .pointer (some ⟨a2, 0, none⟩), .pointer (some ⟨d2, 0, none⟩)]] x W ⟨⟨SB, D2, X2, sep_perm q (p _ _ _ _ _ _)⟩, be.size⟩ r2 ho hK).mono ?_
    rintro r w' ⟨rfl, K', b', t', g', c', ⟨⟨SB', D', X', q'⟩, _⟩, r', hK', hB⟩
    exact ⟨rfl, K', hK', ⟨⟨b1, b', t1, t', g1, c1, g', c', D1, X1, D', X', SB', sep_perm q' (p _ _ _ _ _ _), r1, r'⟩, be.trans hB⟩⟩
theorem Ss.looks (h : Ss w W a1 a2 d1 d2 kl kb K) (hK : K ≤ 1048576) :
    Calls Try.prog 10 #[.pointer (some ⟨kb, 0, none⟩)] W fun x w' => x = .returned (.bool true) ∧ Ss w w' a1 a2 d1 d2 kl kb K := by
  have h0 := h
  obtain ⟨⟨b1, b2, t1, t2, g1, c1, g2, c2, D1, X1, D2, X2, SB, q, r⟩, be⟩ := h
  obtain ⟨S, ov_, rows, h1, h2, h3⟩ := (q.ins (bkOb SB w.heap.size kb K) (by simp)).go
  refine (looks_any w.heap.size kb K hK ov_ rows W h1.bk).mono ?_
  rintro x w' ⟨rfl, h4⟩
  exact ⟨rfl, h0.gr h4.below⟩
theorem Ss.ends (h : Ss w W a1 a2 d1 d2 kl kb K) (M : Nat) (hM : M < 2) :
    Calls Try.prog 11 #[.agg #[.pointer (some ⟨selU M a1 a2, 0, none⟩), .pointer (some ⟨selU M d1 d2, 0, none⟩)]] W fun x w' => x = .returned (.bool true) ∧ Ss w w' a1 a2 d1 d2 kl kb K := by
  have h0 := h
  obtain ⟨⟨b1, b2, t1, t2, g1, c1, g2, c2, D1, X1, D2, X2, SB, q, r1, r2⟩, be⟩ := h
  match M, hM with
  | 0, _ =>
    refine (T.ends_any X1 D1 a1 d1 b1 t1 g1 c1 W (q.ins (tgOb X1 a1 b1 t1) (by simp)) (q.ins (dOb D1 d1 b1 g1 c1) (by simp)) r1).mono ?_
    rintro x w' ⟨rfl, hB⟩
    exact ⟨rfl, h0.gr hB⟩
  | 1, _ =>
    refine (T.ends_any X2 D2 a2 d2 b2 t2 g2 c2 W (q.ins (tgOb X2 a2 b2 t2) (by simp)) (q.ins (dOb D2 d2 b2 g2 c2) (by simp)) r2).mono ?_
    rintro x w' ⟨rfl, hB⟩
    exact ⟨rfl, h0.gr hB⟩
theorem BoIn.start (w W : World) (t : TypeId) (hw : w.heap.size ≤ W.heap.size) : BoIn (fun k => k = W.heap.size) w.heap.size W.heap.size 0 (W.alloc (.cells #[.slice none 0 0] t)) :=
  ⟨⟨fun _ => False, .slice none 0 0, [], ⟨At.new W _ _, World.ownsRow_nil _ _ _ _, fun i hi => absurd hi (Nat.not_lt_zero i), fun h => h, fun g q => (by cases q), fun b h => h.elim, hw⟩, fun _ h => h.elim, fun g q => (by cases q)⟩, rfl, fun k q => by subst q; exact (At.new W #[.slice none 0 0] t).1⟩
theorem perm6 {α : Type} (a b c d e f : α) : [a, b, c, d, e, f].Perm [a, d, f, c, e, b] :=
  .cons a ((List.perm_middle (l₁ := [b, c]) (a := d) (l₂ := [e, f])).trans (.cons d ((List.perm_middle (l₁ := [b, c, e]) (a := f) (l₂ := [])).trans (.cons f ((List.perm_middle (l₁ := [b]) (a := c) (l₂ := [e])).trans (.cons c (.swap _ _ _)))))))
theorem next_wU {k n : Nat} (h : k < n) (hn : n ≤ 500000) : wrap64 ((k : Int) + 1) = ((k + 1 : Nat) : Int) := by unfold wrap64; omega
theorem next_mU {k n : Nat} (h : k < n) : n - (intOf (.int .i64 ((k + 1 : Nat) : Int))).toNat < n - (intOf (.int .i64 (k : Int))).toNat := by simp [intOf]; omega
end
end U
end Go.Proofs.Ythblllanofnmmaa
