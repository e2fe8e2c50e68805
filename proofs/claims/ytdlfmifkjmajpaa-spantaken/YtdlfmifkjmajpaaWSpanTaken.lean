/-
  Stage 2, span: the walk of the statement that what a branch lets through is left.
-/
import Derived.Test.YtdlfmifkjmajpaaSHead
import Derived.Test.YtdlfmifkjmajpaaSPick
import Derived.Test.YtdlfmifkjmajpaaSTak
import Derived.Deep.DeepCutAuto
namespace Go.Proofs.Ytdlfmifkjmajpaa
open Go.RowKit

/-- The branches, in their order. -/
def brA : Array Value := #[.int .u8 21, .int .u8 22, .int .u8 23, .int .u8 24]
theorem br_at (i : Nat) (h : i < 4) : ∃ op : Int, brA[i]? = some (.int .u8 op) ∧ 21 ≤ op ∧ op ≤ 24 := by
  have t : i = 0 ∨ i = 1 ∨ i = 2 ∨ i = 3 := by omega
  rcases t with rfl | rfl | rfl | rfl
  · exact ⟨21, rfl, by decide, by decide⟩
  · exact ⟨22, rfl, by decide, by decide⟩
  · exact ⟨23, rfl, by decide, by decide⟩
  · exact ⟨24, rfl, by decide, by decide⟩
theorem Has_gr' (a b n : Int) (w : World) : Calls Try.prog 19 #[.agg #[.int .u64 a, .int .u64 b], .int .u64 n] w fun x w' => x = .returned (.bool (hasN a b n)) ∧ Gr w w' :=
  (Has_any a b n w).mono fun x w' h => ⟨h.1, by rw [← h.2]; exact ((Gr.refl w).alloc _).alloc _⟩
/-- What the walk needs of a branch on two spans. -/
theorem taken_all {op x y a b c d : Int} (ho : 21 ≤ op ∧ op ≤ 24) (hx : a ≤ x ∧ x ≤ b) (hy : c ≤ y ∧ y ≤ d) :
    (takenB op x y = true → rOk op a b c d = true ∧ hasN (fA op a b c d) (fB op a b c d) x = true ∧ hasN (fC op a b c d) (fD op a b c d) y = true) ∧
    (rOk op a b c d = false → fA op a b c d = 1 ∧ fB op a b c d = 0 ∧ fC op a b c d = 1 ∧ fD op a b c d = 0) ∧
    (rOk op a b c d = true → inB (fA op a b c d) (fB op a b c d) a b = true ∧ inB (fC op a b c d) (fD op a b c d) c d = true ∧ fA op a b c d ≤ fB op a b c d ∧ fC op a b c d ≤ fD op a b c d ∧
      meetsB op (fA op a b c d) c d = true ∧ meetsB op (fB op a b c d) c d = true ∧ metB op a b (fC op a b c d) = true ∧ metB op a b (fD op a b c d) = true) := by
  refine ⟨fun h => ?_, rno_of op a b c d, fun h => ?_⟩
  · obtain ⟨h1, h2, h3, h4, h5⟩ := taken_in ho hx hy h
    obtain ⟨e1, e2, e3, e4⟩ := rok_of op a b c d h1
    rw [e1, e2, e3, e4]
    exact ⟨h1, by simp [hasN, h2, h3], by simp [hasN, h4, h5]⟩
  · obtain ⟨e1, e2, e3, e4⟩ := rok_of op a b c d h
    obtain ⟨⟨g1, g2, g3, g4⟩, g5, g6, g7, g8⟩ := ends_met ho h
    obtain ⟨_, _, r3, r4⟩ := (rok_iff op a b c d).mp h
    rw [e1, e2, e3, e4]
    exact ⟨by simp [inB, g1, g2], by simp [inB, g3, g4], r3, r4, g5, g6, g7, g8⟩

set_option maxHeartbeats 4000000 in
theorem walk_SpanTaken (k p q u v n m : Int) (hk : -9223372036854775808 ≤ k ∧ k < 9223372036854775808) (hp : W64 p) (hq : W64 q) (hu : W64 u) (hv : W64 v) (hn : W64 n) (hm : W64 m) (w : World) :
    Calls Try.prog 7 #[.int .i64 k, .int .u64 p, .int .u64 q, .int .u64 u, .int .u64 v, .int .u64 n, .int .u64 m] w fun x w' => x = .returned (.bool true) ∧ Below w.heap.size w w' := by
  have hB := Gr.refl w
  have ⟨kk, k0, k1, kp, kn⟩ : ∃ kk : Int, 0 ≤ kk ∧ kk < 9223372036854775808 ∧ (0 ≤ k → kk = k) ∧ (k < 0 → kk = -(k + 1)) := by
    by_cases h : k < 0
    · exact ⟨-(k + 1), by omega, by omega, by omega, by omega⟩
    · exact ⟨k, by omega, by omega, by omega, by omega⟩
  obtain ⟨op, ho1, ho2, ho3⟩ := br_at (kk % 4).toNat (by omega)
  have i1 : 0 ≤ kk % 4 := by omega
  have i2 : kk % 4 < 4 := by omega
  have i3 : kk.tmod 4 = kk % 4 := Int.tmod_eq_emod_of_nonneg k0
  have n3 : n.tmod 4 = n % 4 := Int.tmod_eq_emod_of_nonneg hn.1
  have ha : W64 (minI p q) := by unfold W64 minI at *; split <;> omega
  have hb : W64 (maxI p q) := by unfold W64 maxI at *; split <;> omega
  have hc : W64 (minI u v) := by unfold W64 minI at *; split <;> omega
  have hd : W64 (maxI u v) := by unfold W64 maxI at *; split <;> omega
  have hab : minI p q ≤ maxI p q := by unfold minI maxI; (repeat' split) <;> omega
  have hcd : minI u v ≤ maxI u v := by unfold minI maxI; (repeat' split) <;> omega
  have f1 := fit_any p q
  have f2 := fit_any u v
  generalize minI p q = a at ha hab f1
  generalize maxI p q = b at hb hab f1
  generalize minI u v = c at hc hcd f2
  generalize maxI u v = d at hd hcd f2
  have x1 := wiN_in a b n ha hb hab hn
  have y1 := wiN_in c d m hc hd hcd hm
  have px := fun w => pick_any a b n w ha hb hab hn
  have py := fun w => pick_any c d m w hc hd hcd hm
  generalize wiN a b n = x0 at x1 px
  generalize wiN c d m = y0 at y1 py
  obtain ⟨yy, ey⟩ : ∃ yy, min (max x0 c) d = yy := ⟨_, rfl⟩
  have y2 : c ≤ yy ∧ yy ≤ d := by omega
  have hr := fun w => Refine_any op a b c d w (by omega) (by omega) ha hb hc hd
  have ta := taken_all (op := op) (x := x0) (y := y0) (a := a) (b := b) (c := c) (d := d) ⟨ho2, ho3⟩ x1 y1
  have tb := taken_all (op := op) (x := x0) (y := yy) (a := a) (b := b) (c := c) (d := d) ⟨ho2, ho3⟩ x1 y2
  have tk := fun y w => taken_any op x0 y w ⟨ho2, ho3⟩
  generalize fA op a b c d = p1 at hr ta tb
  generalize fB op a b c d = p2 at hr ta tb
  generalize fC op a b c d = p3 at hr ta tb
  generalize fD op a b c d = p4 at hr ta tb
  generalize rOk op a b c d = ok at hr ta tb
  have h1 := Has_gr' p1 p2 x0
  have h2 := fun y => Has_gr' p3 p4 y
  have TA : Hid _ := ta
  have TB : Hid _ := tb
  have HO : Hid (21 ≤ op ∧ op ≤ 24) := ⟨ho2, ho3⟩
  clear ta tb ho2 ho3 ha hb hc hd hab hcd x1 y1 y2 hp hq hu hv hn hm
  by_cases h : k < 0
  · have c1 : IntKind.i64.wrap (k + 1) = k + 1 := by rw [IntKind.wrap_i64]; omega
    have c2 : IntKind.i64.wrap (-(k + 1)) = kk := by rw [IntKind.wrap_i64, kn h]; omega
    clear kp kn hk
    by_cases e4 : n % 4 = 0
    · have e5 : (n % 4 == 0) = true := by simp [e4]
      clear e4
      go_enter Try.func7, Try.ntmps7
      go_wp2_with fail
      refine (head_any _).mono ?_
      rintro x w1 ⟨rfl, hG⟩
      replace hB : Gr w w1 := Gr.trans (by repeat (first | exact hB | refine Gr.alloc ?_ _)) hG
      clear hG
      go_upto_region 5 with fail
      refine wp_world (fun w2 => At w2 (w1.heap.size) brA ∧ Gr w w2) ⟨?_, ?_⟩ ?_
      · repeat (first | exact At.new _ _ _ | exact At.next _ _ _ _ | refine At.alloc ?_ _)
      · repeat (first | exact hB | refine Gr.alloc ?_ _)
      clear hB
      rintro w2 ⟨A_l, hB⟩
      have ⟨z_l, q_l, _⟩ := A_l
      go_wp2_with fail
      refine (f1 _).mono ?_
      rintro x w3 ⟨rfl, hG⟩
      clear z_l q_l
      replace A_l : At w3 (w1.heap.size) brA := At.gr (by repeat (first | exact A_l | refine At.alloc ?_ _)) hG
      replace hB : Gr w w3 := Gr.trans (by repeat (first | exact hB | refine Gr.alloc ?_ _)) hG
      clear hG
      clear A_l
      go_wp2_with fail
      refine (f2 _).mono ?_
      rintro x w4 ⟨rfl, hG⟩
      have A_a : At w4 (w3.heap.size) #[.int .u64 a, .int .u64 b] := At.gr (by repeat (first | exact At.new _ _ _ | exact At.next _ _ _ _ | refine At.alloc ?_ _)) hG
      replace hB : Gr w w4 := Gr.trans (by repeat (first | exact hB | refine Gr.alloc ?_ _)) hG
      clear hG
      have ⟨z_a, q_a, _⟩ := A_a
      go_wp2_with fail
      refine (px _).mono ?_
      rintro x w5 ⟨rfl, hG⟩
      clear z_a q_a
      replace A_a : At w5 (w3.heap.size) #[.int .u64 a, .int .u64 b] := At.gr (by repeat (first | exact A_a | refine At.alloc ?_ _)) hG
      have A_c : At w5 (w4.heap.size) #[.int .u64 c, .int .u64 d] := At.gr (by repeat (first | exact At.new _ _ _ | exact At.next _ _ _ _ | refine At.alloc ?_ _)) hG
      replace hB : Gr w w5 := Gr.trans (by repeat (first | exact hB | refine Gr.alloc ?_ _)) hG
      clear hG
      have ⟨z_a, q_a, _⟩ := A_a
      have ⟨z_c, q_c, _⟩ := A_c
      go_wp2_with fail
      refine (py _).mono ?_
      rintro x w6 ⟨rfl, hG⟩
      clear z_a q_a z_c q_c
      replace A_a : At w6 (w3.heap.size) #[.int .u64 a, .int .u64 b] := At.gr (by repeat (first | exact A_a | refine At.alloc ?_ _)) hG
      replace A_c : At w6 (w4.heap.size) #[.int .u64 c, .int .u64 d] := At.gr (by repeat (first | exact A_c | refine At.alloc ?_ _)) hG
      replace hB : Gr w w6 := Gr.trans (by repeat (first | exact hB | refine Gr.alloc ?_ _)) hG
      clear hG
      have ⟨z_a, q_a, _⟩ := A_a
      have ⟨z_c, q_c, _⟩ := A_c
      go_wp2_with fail
      refine (hr _).mono ?_
      rintro x w7 ⟨rfl, hG⟩
      clear z_a q_a z_c q_c
      replace A_a : At w7 (w3.heap.size) #[.int .u64 a, .int .u64 b] := At.gr (by repeat (first | exact A_a | refine At.alloc ?_ _)) hG
      replace A_c : At w7 (w4.heap.size) #[.int .u64 c, .int .u64 d] := At.gr (by repeat (first | exact A_c | refine At.alloc ?_ _)) hG
      replace hB : Gr w w7 := Gr.trans (by repeat (first | exact hB | refine Gr.alloc ?_ _)) hG
      clear hG
      have ⟨z_a, q_a, _⟩ := A_a
      have ⟨z_c, q_c, _⟩ := A_c
      go_wp2_with fail
      refine (tk yy _).mono ?_
      rintro x w8 ⟨rfl, hG⟩
      clear z_a q_a z_c q_c
      replace A_a : At w8 (w3.heap.size) #[.int .u64 a, .int .u64 b] := At.gr (by repeat (first | exact A_a | refine At.alloc ?_ _)) hG
      replace A_c : At w8 (w4.heap.size) #[.int .u64 c, .int .u64 d] := At.gr (by repeat (first | exact A_c | refine At.alloc ?_ _)) hG
      have A_p : At w8 (w7.heap.size) #[.int .u64 p1, .int .u64 p2] := At.gr (by repeat (first | exact At.new _ _ _ | exact At.next _ _ _ _ | refine At.alloc ?_ _)) hG
      have A_r : At w8 (w7.heap.size + 1) #[.int .u64 p3, .int .u64 p4] := At.gr (by repeat (first | exact At.new _ _ _ | exact At.next _ _ _ _ | refine At.alloc ?_ _)) hG
      replace hB : Gr w w8 := Gr.trans (by repeat (first | exact hB | refine Gr.alloc ?_ _)) hG
      clear hG
      have ⟨z_a, q_a, _⟩ := A_a
      have ⟨z_c, q_c, _⟩ := A_c
      have ⟨z_p, q_p, _⟩ := A_p
      have ⟨z_r, q_r, _⟩ := A_r
      go_wp2_with fail
      refine (h1 _).mono ?_
      rintro x w9 ⟨rfl, hG⟩
      clear z_a q_a z_c q_c z_p q_p z_r q_r
      replace A_a : At w9 (w3.heap.size) #[.int .u64 a, .int .u64 b] := At.gr (by repeat (first | exact A_a | refine At.alloc ?_ _)) hG
      replace A_c : At w9 (w4.heap.size) #[.int .u64 c, .int .u64 d] := At.gr (by repeat (first | exact A_c | refine At.alloc ?_ _)) hG
      replace A_p : At w9 (w7.heap.size) #[.int .u64 p1, .int .u64 p2] := At.gr (by repeat (first | exact A_p | refine At.alloc ?_ _)) hG
      replace A_r : At w9 (w7.heap.size + 1) #[.int .u64 p3, .int .u64 p4] := At.gr (by repeat (first | exact A_r | refine At.alloc ?_ _)) hG
      replace hB : Gr w w9 := Gr.trans (by repeat (first | exact hB | refine Gr.alloc ?_ _)) hG
      clear hG
      have ⟨z_a, q_a, _⟩ := A_a
      have ⟨z_c, q_c, _⟩ := A_c
      have ⟨z_p, q_p, _⟩ := A_p
      have ⟨z_r, q_r, _⟩ := A_r
      go_wp2_with fail
      refine (h2 yy _).mono ?_
      rintro x w10 ⟨rfl, hG⟩
      clear z_a q_a z_c q_c z_p q_p z_r q_r
      replace A_a : At w10 (w3.heap.size) #[.int .u64 a, .int .u64 b] := At.gr (by repeat (first | exact A_a | refine At.alloc ?_ _)) hG
      replace A_c : At w10 (w4.heap.size) #[.int .u64 c, .int .u64 d] := At.gr (by repeat (first | exact A_c | refine At.alloc ?_ _)) hG
      replace A_p : At w10 (w7.heap.size) #[.int .u64 p1, .int .u64 p2] := At.gr (by repeat (first | exact A_p | refine At.alloc ?_ _)) hG
      replace A_r : At w10 (w7.heap.size + 1) #[.int .u64 p3, .int .u64 p4] := At.gr (by repeat (first | exact A_r | refine At.alloc ?_ _)) hG
      replace hB : Gr w w10 := Gr.trans (by repeat (first | exact hB | refine Gr.alloc ?_ _)) hG
      clear hG
      have ⟨z_a, q_a, _⟩ := A_a
      have ⟨z_c, q_c, _⟩ := A_c
      have ⟨z_p, q_p, _⟩ := A_p
      have ⟨z_r, q_r, _⟩ := A_r
      go_upto_region 16 with fail
      clear z_a q_a z_c q_c z_p q_p z_r q_r
      refine wp_world (fun w11 => At w11 (w3.heap.size) #[.int .u64 a, .int .u64 b] ∧ At w11 (w4.heap.size) #[.int .u64 c, .int .u64 d] ∧ At w11 (w7.heap.size) #[.int .u64 p1, .int .u64 p2] ∧ At w11 (w7.heap.size + 1) #[.int .u64 p3, .int .u64 p4] ∧ Gr w w11) ⟨?_, ?_, ?_, ?_, ?_⟩ ?_
      · repeat (first | exact A_a | refine At.alloc ?_ _)
      · repeat (first | exact A_c | refine At.alloc ?_ _)
      · repeat (first | exact A_p | refine At.alloc ?_ _)
      · repeat (first | exact A_r | refine At.alloc ?_ _)
      · repeat (first | exact hB | refine Gr.alloc ?_ _)
      clear A_a A_c A_p A_r hB
      rintro w11 ⟨A_a, A_c, A_p, A_r, hB⟩
      have tt := TB.out
      generalize takenB op x0 yy = t at tt ⊢
      generalize hasN p1 p2 x0 = i at tt ⊢
      generalize hasN p3 p4 yy = j at tt ⊢
      obtain ⟨t1, t2, t3⟩ := tt
      clear TA TB f1 f2 px py hr tk h1 h2
      cases ok with
      | false =>
        have t0 : t = false := by
          cases t with
          | false => rfl
          | true => exact absurd (t1 rfl).1 (by simp)
        subst t0
        obtain ⟨rfl, rfl, rfl, rfl⟩ := t2 rfl
        clear t1 t2 t3
        have ⟨z_a, q_a, _⟩ := A_a
        have ⟨z_c, q_c, _⟩ := A_c
        have ⟨z_p, q_p, _⟩ := A_p
        have ⟨z_r, q_r, _⟩ := A_r
        go_wp2_with fail
        go_ret
        exact ⟨rfl, hB.below⟩
      | true =>
        obtain ⟨g1, g2, g3, g4, g5, g6, g7, g8⟩ := t3 rfl
        have tij : t = false ∨ (t = true ∧ i = true ∧ j = true) := by
          cases t with
          | false => exact .inl rfl
          | true => exact .inr ⟨rfl, (t1 rfl).2⟩
        have K1 : Hid ((21 ≤ op ∧ op ≤ 24) ∧ meetsB op p1 c d = true) := ⟨HO.out, g5⟩
        have K2 : Hid ((21 ≤ op ∧ op ≤ 24) ∧ meetsB op p2 c d = true) := ⟨HO.out, g6⟩
        have K3 : Hid ((21 ≤ op ∧ op ≤ 24) ∧ metB op a b p3 = true) := ⟨HO.out, g7⟩
        have K4 : Hid ((21 ≤ op ∧ op ≤ 24) ∧ metB op a b p4 = true) := ⟨HO.out, g8⟩
        have u1 := Under_any p1 p2 a b
        have u2 := Under_any p3 p4 c d
        rw [g1] at u1
        rw [g2] at u2
        have d1 : decide (p1 ≤ p2) = true := by simp; omega
        have d2 : decide (p3 ≤ p4) = true := by simp; omega
        clear t1 t2 t3 g1 g2 g3 g4 g5 g6 g7 g8 HO
        rcases tij with rfl | ⟨rfl, rfl, rfl⟩
        · have ⟨z_a, q_a, _⟩ := A_a
          have ⟨z_c, q_c, _⟩ := A_c
          have ⟨z_p, q_p, _⟩ := A_p
          have ⟨z_r, q_r, _⟩ := A_r
          go_wp2_with fail
          refine (u1 _).mono ?_
          rintro x w12 ⟨rfl, hG⟩
          clear z_a q_a z_c q_c z_p q_p z_r q_r
          replace A_a : At w12 (w3.heap.size) #[.int .u64 a, .int .u64 b] := At.gr (by repeat (first | exact A_a | refine At.alloc ?_ _)) hG
          replace A_c : At w12 (w4.heap.size) #[.int .u64 c, .int .u64 d] := At.gr (by repeat (first | exact A_c | refine At.alloc ?_ _)) hG
          replace A_p : At w12 (w7.heap.size) #[.int .u64 p1, .int .u64 p2] := At.gr (by repeat (first | exact A_p | refine At.alloc ?_ _)) hG
          replace A_r : At w12 (w7.heap.size + 1) #[.int .u64 p3, .int .u64 p4] := At.gr (by repeat (first | exact A_r | refine At.alloc ?_ _)) hG
          replace hB : Gr w w12 := Gr.trans (by repeat (first | exact hB | refine Gr.alloc ?_ _)) hG
          clear hG
          have ⟨z_a, q_a, _⟩ := A_a
          have ⟨z_c, q_c, _⟩ := A_c
          have ⟨z_p, q_p, _⟩ := A_p
          have ⟨z_r, q_r, _⟩ := A_r
          go_wp2_with fail
          refine (u2 _).mono ?_
          rintro x w13 ⟨rfl, hG⟩
          clear z_a q_a z_c q_c z_p q_p z_r q_r
          replace A_a : At w13 (w3.heap.size) #[.int .u64 a, .int .u64 b] := At.gr (by repeat (first | exact A_a | refine At.alloc ?_ _)) hG
          replace A_c : At w13 (w4.heap.size) #[.int .u64 c, .int .u64 d] := At.gr (by repeat (first | exact A_c | refine At.alloc ?_ _)) hG
          replace A_p : At w13 (w7.heap.size) #[.int .u64 p1, .int .u64 p2] := At.gr (by repeat (first | exact A_p | refine At.alloc ?_ _)) hG
          replace A_r : At w13 (w7.heap.size + 1) #[.int .u64 p3, .int .u64 p4] := At.gr (by repeat (first | exact A_r | refine At.alloc ?_ _)) hG
          replace hB : Gr w w13 := Gr.trans (by repeat (first | exact hB | refine Gr.alloc ?_ _)) hG
          clear hG
          have ⟨z_a, q_a, _⟩ := A_a
          have ⟨z_c, q_c, _⟩ := A_c
          have ⟨z_p, q_p, _⟩ := A_p
          have ⟨z_r, q_r, _⟩ := A_r
          go_upto_region 22 with fail
          clear z_a q_a z_c q_c z_p q_p z_r q_r
          refine wp_world (fun w14 => At w14 (w3.heap.size) #[.int .u64 a, .int .u64 b] ∧ At w14 (w4.heap.size) #[.int .u64 c, .int .u64 d] ∧ At w14 (w7.heap.size) #[.int .u64 p1, .int .u64 p2] ∧ At w14 (w7.heap.size + 1) #[.int .u64 p3, .int .u64 p4] ∧ Gr w w14) ⟨?_, ?_, ?_, ?_, ?_⟩ ?_
          · repeat (first | exact A_a | refine At.alloc ?_ _)
          · repeat (first | exact A_c | refine At.alloc ?_ _)
          · repeat (first | exact A_p | refine At.alloc ?_ _)
          · repeat (first | exact A_r | refine At.alloc ?_ _)
          · repeat (first | exact hB | refine Gr.alloc ?_ _)
          clear A_a A_c A_p A_r hB
          rintro w14 ⟨A_a, A_c, A_p, A_r, hB⟩
          have M_a := A_a.grown0
          have M_c := A_c.grown0
          have M_p := A_p.grown0
          have M_r := A_r.grown0
          have ⟨z_a, q_a, _⟩ := A_a
          have ⟨z_c, q_c, _⟩ := A_c
          have ⟨z_p, q_p, _⟩ := A_p
          have ⟨z_r, q_r, _⟩ := A_r
          go_wp2_with (first | (go_at_call 24; refine (meets_y _ _ _ _ _ (by assumption)).mono ?_; rintro x w' ⟨rfl, hG⟩; (try replace hG := Gr.of_grow hG); obtain ⟨l, rfl⟩ := hG) | (go_at_call 25; refine (met_y _ _ _ _ _ (by assumption)).mono ?_; rintro x w' ⟨rfl, hG⟩; (try replace hG := Gr.of_grow hG); obtain ⟨l, rfl⟩ := hG))
          go_ret
          exact ⟨rfl, (hB.grow _).below⟩
        · have ⟨z_a, q_a, _⟩ := A_a
          have ⟨z_c, q_c, _⟩ := A_c
          have ⟨z_p, q_p, _⟩ := A_p
          have ⟨z_r, q_r, _⟩ := A_r
          go_wp2_with fail
          refine (u1 _).mono ?_
          rintro x w12 ⟨rfl, hG⟩
          clear z_a q_a z_c q_c z_p q_p z_r q_r
          replace A_a : At w12 (w3.heap.size) #[.int .u64 a, .int .u64 b] := At.gr (by repeat (first | exact A_a | refine At.alloc ?_ _)) hG
          replace A_c : At w12 (w4.heap.size) #[.int .u64 c, .int .u64 d] := At.gr (by repeat (first | exact A_c | refine At.alloc ?_ _)) hG
          replace A_p : At w12 (w7.heap.size) #[.int .u64 p1, .int .u64 p2] := At.gr (by repeat (first | exact A_p | refine At.alloc ?_ _)) hG
          replace A_r : At w12 (w7.heap.size + 1) #[.int .u64 p3, .int .u64 p4] := At.gr (by repeat (first | exact A_r | refine At.alloc ?_ _)) hG
          replace hB : Gr w w12 := Gr.trans (by repeat (first | exact hB | refine Gr.alloc ?_ _)) hG
          clear hG
          have ⟨z_a, q_a, _⟩ := A_a
          have ⟨z_c, q_c, _⟩ := A_c
          have ⟨z_p, q_p, _⟩ := A_p
          have ⟨z_r, q_r, _⟩ := A_r
          go_wp2_with fail
          refine (u2 _).mono ?_
          rintro x w13 ⟨rfl, hG⟩
          clear z_a q_a z_c q_c z_p q_p z_r q_r
          replace A_a : At w13 (w3.heap.size) #[.int .u64 a, .int .u64 b] := At.gr (by repeat (first | exact A_a | refine At.alloc ?_ _)) hG
          replace A_c : At w13 (w4.heap.size) #[.int .u64 c, .int .u64 d] := At.gr (by repeat (first | exact A_c | refine At.alloc ?_ _)) hG
          replace A_p : At w13 (w7.heap.size) #[.int .u64 p1, .int .u64 p2] := At.gr (by repeat (first | exact A_p | refine At.alloc ?_ _)) hG
          replace A_r : At w13 (w7.heap.size + 1) #[.int .u64 p3, .int .u64 p4] := At.gr (by repeat (first | exact A_r | refine At.alloc ?_ _)) hG
          replace hB : Gr w w13 := Gr.trans (by repeat (first | exact hB | refine Gr.alloc ?_ _)) hG
          clear hG
          have ⟨z_a, q_a, _⟩ := A_a
          have ⟨z_c, q_c, _⟩ := A_c
          have ⟨z_p, q_p, _⟩ := A_p
          have ⟨z_r, q_r, _⟩ := A_r
          go_upto_region 22 with fail
          clear z_a q_a z_c q_c z_p q_p z_r q_r
          refine wp_world (fun w14 => At w14 (w3.heap.size) #[.int .u64 a, .int .u64 b] ∧ At w14 (w4.heap.size) #[.int .u64 c, .int .u64 d] ∧ At w14 (w7.heap.size) #[.int .u64 p1, .int .u64 p2] ∧ At w14 (w7.heap.size + 1) #[.int .u64 p3, .int .u64 p4] ∧ Gr w w14) ⟨?_, ?_, ?_, ?_, ?_⟩ ?_
          · repeat (first | exact A_a | refine At.alloc ?_ _)
          · repeat (first | exact A_c | refine At.alloc ?_ _)
          · repeat (first | exact A_p | refine At.alloc ?_ _)
          · repeat (first | exact A_r | refine At.alloc ?_ _)
          · repeat (first | exact hB | refine Gr.alloc ?_ _)
          clear A_a A_c A_p A_r hB
          rintro w14 ⟨A_a, A_c, A_p, A_r, hB⟩
          have M_a := A_a.grown0
          have M_c := A_c.grown0
          have M_p := A_p.grown0
          have M_r := A_r.grown0
          have ⟨z_a, q_a, _⟩ := A_a
          have ⟨z_c, q_c, _⟩ := A_c
          have ⟨z_p, q_p, _⟩ := A_p
          have ⟨z_r, q_r, _⟩ := A_r
          go_wp2_with (first | (go_at_call 24; refine (meets_y _ _ _ _ _ (by assumption)).mono ?_; rintro x w' ⟨rfl, hG⟩; (try replace hG := Gr.of_grow hG); obtain ⟨l, rfl⟩ := hG) | (go_at_call 25; refine (met_y _ _ _ _ _ (by assumption)).mono ?_; rintro x w' ⟨rfl, hG⟩; (try replace hG := Gr.of_grow hG); obtain ⟨l, rfl⟩ := hG))
          go_ret
          exact ⟨rfl, (hB.grow _).below⟩
    · have e5 : (n % 4 == 0) = false := by simp [e4]
      clear e4
      go_enter Try.func7, Try.ntmps7
      go_wp2_with fail
      refine (head_any _).mono ?_
      rintro x w1 ⟨rfl, hG⟩
      replace hB : Gr w w1 := Gr.trans (by repeat (first | exact hB | refine Gr.alloc ?_ _)) hG
      clear hG
      go_upto_region 5 with fail
      refine wp_world (fun w2 => At w2 (w1.heap.size) brA ∧ Gr w w2) ⟨?_, ?_⟩ ?_
      · repeat (first | exact At.new _ _ _ | exact At.next _ _ _ _ | refine At.alloc ?_ _)
      · repeat (first | exact hB | refine Gr.alloc ?_ _)
      clear hB
      rintro w2 ⟨A_l, hB⟩
      have ⟨z_l, q_l, _⟩ := A_l
      go_wp2_with fail
      refine (f1 _).mono ?_
      rintro x w3 ⟨rfl, hG⟩
      clear z_l q_l
      replace A_l : At w3 (w1.heap.size) brA := At.gr (by repeat (first | exact A_l | refine At.alloc ?_ _)) hG
      replace hB : Gr w w3 := Gr.trans (by repeat (first | exact hB | refine Gr.alloc ?_ _)) hG
      clear hG
      clear A_l
      go_wp2_with fail
      refine (f2 _).mono ?_
      rintro x w4 ⟨rfl, hG⟩
      have A_a : At w4 (w3.heap.size) #[.int .u64 a, .int .u64 b] := At.gr (by repeat (first | exact At.new _ _ _ | exact At.next _ _ _ _ | refine At.alloc ?_ _)) hG
      replace hB : Gr w w4 := Gr.trans (by repeat (first | exact hB | refine Gr.alloc ?_ _)) hG
      clear hG
      have ⟨z_a, q_a, _⟩ := A_a
      go_wp2_with fail
      refine (px _).mono ?_
      rintro x w5 ⟨rfl, hG⟩
      clear z_a q_a
      replace A_a : At w5 (w3.heap.size) #[.int .u64 a, .int .u64 b] := At.gr (by repeat (first | exact A_a | refine At.alloc ?_ _)) hG
      have A_c : At w5 (w4.heap.size) #[.int .u64 c, .int .u64 d] := At.gr (by repeat (first | exact At.new _ _ _ | exact At.next _ _ _ _ | refine At.alloc ?_ _)) hG
      replace hB : Gr w w5 := Gr.trans (by repeat (first | exact hB | refine Gr.alloc ?_ _)) hG
      clear hG
      have ⟨z_a, q_a, _⟩ := A_a
      have ⟨z_c, q_c, _⟩ := A_c
      go_wp2_with fail
      refine (py _).mono ?_
      rintro x w6 ⟨rfl, hG⟩
      clear z_a q_a z_c q_c
      replace A_a : At w6 (w3.heap.size) #[.int .u64 a, .int .u64 b] := At.gr (by repeat (first | exact A_a | refine At.alloc ?_ _)) hG
      replace A_c : At w6 (w4.heap.size) #[.int .u64 c, .int .u64 d] := At.gr (by repeat (first | exact A_c | refine At.alloc ?_ _)) hG
      replace hB : Gr w w6 := Gr.trans (by repeat (first | exact hB | refine Gr.alloc ?_ _)) hG
      clear hG
      have ⟨z_a, q_a, _⟩ := A_a
      have ⟨z_c, q_c, _⟩ := A_c
      go_wp2_with fail
      refine (hr _).mono ?_
      rintro x w7 ⟨rfl, hG⟩
      clear z_a q_a z_c q_c
      replace A_a : At w7 (w3.heap.size) #[.int .u64 a, .int .u64 b] := At.gr (by repeat (first | exact A_a | refine At.alloc ?_ _)) hG
      replace A_c : At w7 (w4.heap.size) #[.int .u64 c, .int .u64 d] := At.gr (by repeat (first | exact A_c | refine At.alloc ?_ _)) hG
      replace hB : Gr w w7 := Gr.trans (by repeat (first | exact hB | refine Gr.alloc ?_ _)) hG
      clear hG
      have ⟨z_a, q_a, _⟩ := A_a
      have ⟨z_c, q_c, _⟩ := A_c
      go_wp2_with fail
      refine (tk y0 _).mono ?_
      rintro x w8 ⟨rfl, hG⟩
      clear z_a q_a z_c q_c
      replace A_a : At w8 (w3.heap.size) #[.int .u64 a, .int .u64 b] := At.gr (by repeat (first | exact A_a | refine At.alloc ?_ _)) hG
      replace A_c : At w8 (w4.heap.size) #[.int .u64 c, .int .u64 d] := At.gr (by repeat (first | exact A_c | refine At.alloc ?_ _)) hG
      have A_p : At w8 (w7.heap.size) #[.int .u64 p1, .int .u64 p2] := At.gr (by repeat (first | exact At.new _ _ _ | exact At.next _ _ _ _ | refine At.alloc ?_ _)) hG
      have A_r : At w8 (w7.heap.size + 1) #[.int .u64 p3, .int .u64 p4] := At.gr (by repeat (first | exact At.new _ _ _ | exact At.next _ _ _ _ | refine At.alloc ?_ _)) hG
      replace hB : Gr w w8 := Gr.trans (by repeat (first | exact hB | refine Gr.alloc ?_ _)) hG
      clear hG
      have ⟨z_a, q_a, _⟩ := A_a
      have ⟨z_c, q_c, _⟩ := A_c
      have ⟨z_p, q_p, _⟩ := A_p
      have ⟨z_r, q_r, _⟩ := A_r
      go_wp2_with fail
      refine (h1 _).mono ?_
      rintro x w9 ⟨rfl, hG⟩
      clear z_a q_a z_c q_c z_p q_p z_r q_r
      replace A_a : At w9 (w3.heap.size) #[.int .u64 a, .int .u64 b] := At.gr (by repeat (first | exact A_a | refine At.alloc ?_ _)) hG
      replace A_c : At w9 (w4.heap.size) #[.int .u64 c, .int .u64 d] := At.gr (by repeat (first | exact A_c | refine At.alloc ?_ _)) hG
      replace A_p : At w9 (w7.heap.size) #[.int .u64 p1, .int .u64 p2] := At.gr (by repeat (first | exact A_p | refine At.alloc ?_ _)) hG
      replace A_r : At w9 (w7.heap.size + 1) #[.int .u64 p3, .int .u64 p4] := At.gr (by repeat (first | exact A_r | refine At.alloc ?_ _)) hG
      replace hB : Gr w w9 := Gr.trans (by repeat (first | exact hB | refine Gr.alloc ?_ _)) hG
      clear hG
      have ⟨z_a, q_a, _⟩ := A_a
      have ⟨z_c, q_c, _⟩ := A_c
      have ⟨z_p, q_p, _⟩ := A_p
      have ⟨z_r, q_r, _⟩ := A_r
      go_wp2_with fail
      refine (h2 y0 _).mono ?_
      rintro x w10 ⟨rfl, hG⟩
      clear z_a q_a z_c q_c z_p q_p z_r q_r
      replace A_a : At w10 (w3.heap.size) #[.int .u64 a, .int .u64 b] := At.gr (by repeat (first | exact A_a | refine At.alloc ?_ _)) hG
      replace A_c : At w10 (w4.heap.size) #[.int .u64 c, .int .u64 d] := At.gr (by repeat (first | exact A_c | refine At.alloc ?_ _)) hG
      replace A_p : At w10 (w7.heap.size) #[.int .u64 p1, .int .u64 p2] := At.gr (by repeat (first | exact A_p | refine At.alloc ?_ _)) hG
      replace A_r : At w10 (w7.heap.size + 1) #[.int .u64 p3, .int .u64 p4] := At.gr (by repeat (first | exact A_r | refine At.alloc ?_ _)) hG
      replace hB : Gr w w10 := Gr.trans (by repeat (first | exact hB | refine Gr.alloc ?_ _)) hG
      clear hG
      have ⟨z_a, q_a, _⟩ := A_a
      have ⟨z_c, q_c, _⟩ := A_c
      have ⟨z_p, q_p, _⟩ := A_p
      have ⟨z_r, q_r, _⟩ := A_r
      go_upto_region 16 with fail
      clear z_a q_a z_c q_c z_p q_p z_r q_r
      refine wp_world (fun w11 => At w11 (w3.heap.size) #[.int .u64 a, .int .u64 b] ∧ At w11 (w4.heap.size) #[.int .u64 c, .int .u64 d] ∧ At w11 (w7.heap.size) #[.int .u64 p1, .int .u64 p2] ∧ At w11 (w7.heap.size + 1) #[.int .u64 p3, .int .u64 p4] ∧ Gr w w11) ⟨?_, ?_, ?_, ?_, ?_⟩ ?_
      · repeat (first | exact A_a | refine At.alloc ?_ _)
      · repeat (first | exact A_c | refine At.alloc ?_ _)
      · repeat (first | exact A_p | refine At.alloc ?_ _)
      · repeat (first | exact A_r | refine At.alloc ?_ _)
      · repeat (first | exact hB | refine Gr.alloc ?_ _)
      clear A_a A_c A_p A_r hB
      rintro w11 ⟨A_a, A_c, A_p, A_r, hB⟩
      have tt := TA.out
      generalize takenB op x0 y0 = t at tt ⊢
      generalize hasN p1 p2 x0 = i at tt ⊢
      generalize hasN p3 p4 y0 = j at tt ⊢
      obtain ⟨t1, t2, t3⟩ := tt
      clear TA TB f1 f2 px py hr tk h1 h2
      cases ok with
      | false =>
        have t0 : t = false := by
          cases t with
          | false => rfl
          | true => exact absurd (t1 rfl).1 (by simp)
        subst t0
        obtain ⟨rfl, rfl, rfl, rfl⟩ := t2 rfl
        clear t1 t2 t3
        have ⟨z_a, q_a, _⟩ := A_a
        have ⟨z_c, q_c, _⟩ := A_c
        have ⟨z_p, q_p, _⟩ := A_p
        have ⟨z_r, q_r, _⟩ := A_r
        go_wp2_with fail
        go_ret
        exact ⟨rfl, hB.below⟩
      | true =>
        obtain ⟨g1, g2, g3, g4, g5, g6, g7, g8⟩ := t3 rfl
        have tij : t = false ∨ (t = true ∧ i = true ∧ j = true) := by
          cases t with
          | false => exact .inl rfl
          | true => exact .inr ⟨rfl, (t1 rfl).2⟩
        have K1 : Hid ((21 ≤ op ∧ op ≤ 24) ∧ meetsB op p1 c d = true) := ⟨HO.out, g5⟩
        have K2 : Hid ((21 ≤ op ∧ op ≤ 24) ∧ meetsB op p2 c d = true) := ⟨HO.out, g6⟩
        have K3 : Hid ((21 ≤ op ∧ op ≤ 24) ∧ metB op a b p3 = true) := ⟨HO.out, g7⟩
        have K4 : Hid ((21 ≤ op ∧ op ≤ 24) ∧ metB op a b p4 = true) := ⟨HO.out, g8⟩
        have u1 := Under_any p1 p2 a b
        have u2 := Under_any p3 p4 c d
        rw [g1] at u1
        rw [g2] at u2
        have d1 : decide (p1 ≤ p2) = true := by simp; omega
        have d2 : decide (p3 ≤ p4) = true := by simp; omega
        clear t1 t2 t3 g1 g2 g3 g4 g5 g6 g7 g8 HO
        rcases tij with rfl | ⟨rfl, rfl, rfl⟩
        · have ⟨z_a, q_a, _⟩ := A_a
          have ⟨z_c, q_c, _⟩ := A_c
          have ⟨z_p, q_p, _⟩ := A_p
          have ⟨z_r, q_r, _⟩ := A_r
          go_wp2_with fail
          refine (u1 _).mono ?_
          rintro x w12 ⟨rfl, hG⟩
          clear z_a q_a z_c q_c z_p q_p z_r q_r
          replace A_a : At w12 (w3.heap.size) #[.int .u64 a, .int .u64 b] := At.gr (by repeat (first | exact A_a | refine At.alloc ?_ _)) hG
          replace A_c : At w12 (w4.heap.size) #[.int .u64 c, .int .u64 d] := At.gr (by repeat (first | exact A_c | refine At.alloc ?_ _)) hG
          replace A_p : At w12 (w7.heap.size) #[.int .u64 p1, .int .u64 p2] := At.gr (by repeat (first | exact A_p | refine At.alloc ?_ _)) hG
          replace A_r : At w12 (w7.heap.size + 1) #[.int .u64 p3, .int .u64 p4] := At.gr (by repeat (first | exact A_r | refine At.alloc ?_ _)) hG
          replace hB : Gr w w12 := Gr.trans (by repeat (first | exact hB | refine Gr.alloc ?_ _)) hG
          clear hG
          have ⟨z_a, q_a, _⟩ := A_a
          have ⟨z_c, q_c, _⟩ := A_c
          have ⟨z_p, q_p, _⟩ := A_p
          have ⟨z_r, q_r, _⟩ := A_r
          go_wp2_with fail
          refine (u2 _).mono ?_
          rintro x w13 ⟨rfl, hG⟩
          clear z_a q_a z_c q_c z_p q_p z_r q_r
          replace A_a : At w13 (w3.heap.size) #[.int .u64 a, .int .u64 b] := At.gr (by repeat (first | exact A_a | refine At.alloc ?_ _)) hG
          replace A_c : At w13 (w4.heap.size) #[.int .u64 c, .int .u64 d] := At.gr (by repeat (first | exact A_c | refine At.alloc ?_ _)) hG
          replace A_p : At w13 (w7.heap.size) #[.int .u64 p1, .int .u64 p2] := At.gr (by repeat (first | exact A_p | refine At.alloc ?_ _)) hG
          replace A_r : At w13 (w7.heap.size + 1) #[.int .u64 p3, .int .u64 p4] := At.gr (by repeat (first | exact A_r | refine At.alloc ?_ _)) hG
          replace hB : Gr w w13 := Gr.trans (by repeat (first | exact hB | refine Gr.alloc ?_ _)) hG
          clear hG
          have ⟨z_a, q_a, _⟩ := A_a
          have ⟨z_c, q_c, _⟩ := A_c
          have ⟨z_p, q_p, _⟩ := A_p
          have ⟨z_r, q_r, _⟩ := A_r
          go_upto_region 22 with fail
          clear z_a q_a z_c q_c z_p q_p z_r q_r
          refine wp_world (fun w14 => At w14 (w3.heap.size) #[.int .u64 a, .int .u64 b] ∧ At w14 (w4.heap.size) #[.int .u64 c, .int .u64 d] ∧ At w14 (w7.heap.size) #[.int .u64 p1, .int .u64 p2] ∧ At w14 (w7.heap.size + 1) #[.int .u64 p3, .int .u64 p4] ∧ Gr w w14) ⟨?_, ?_, ?_, ?_, ?_⟩ ?_
          · repeat (first | exact A_a | refine At.alloc ?_ _)
          · repeat (first | exact A_c | refine At.alloc ?_ _)
          · repeat (first | exact A_p | refine At.alloc ?_ _)
          · repeat (first | exact A_r | refine At.alloc ?_ _)
          · repeat (first | exact hB | refine Gr.alloc ?_ _)
          clear A_a A_c A_p A_r hB
          rintro w14 ⟨A_a, A_c, A_p, A_r, hB⟩
          have M_a := A_a.grown0
          have M_c := A_c.grown0
          have M_p := A_p.grown0
          have M_r := A_r.grown0
          have ⟨z_a, q_a, _⟩ := A_a
          have ⟨z_c, q_c, _⟩ := A_c
          have ⟨z_p, q_p, _⟩ := A_p
          have ⟨z_r, q_r, _⟩ := A_r
          go_wp2_with (first | (go_at_call 24; refine (meets_y _ _ _ _ _ (by assumption)).mono ?_; rintro x w' ⟨rfl, hG⟩; (try replace hG := Gr.of_grow hG); obtain ⟨l, rfl⟩ := hG) | (go_at_call 25; refine (met_y _ _ _ _ _ (by assumption)).mono ?_; rintro x w' ⟨rfl, hG⟩; (try replace hG := Gr.of_grow hG); obtain ⟨l, rfl⟩ := hG))
          go_ret
          exact ⟨rfl, (hB.grow _).below⟩
        · have ⟨z_a, q_a, _⟩ := A_a
          have ⟨z_c, q_c, _⟩ := A_c
          have ⟨z_p, q_p, _⟩ := A_p
          have ⟨z_r, q_r, _⟩ := A_r
          go_wp2_with fail
          refine (u1 _).mono ?_
          rintro x w12 ⟨rfl, hG⟩
          clear z_a q_a z_c q_c z_p q_p z_r q_r
          replace A_a : At w12 (w3.heap.size) #[.int .u64 a, .int .u64 b] := At.gr (by repeat (first | exact A_a | refine At.alloc ?_ _)) hG
          replace A_c : At w12 (w4.heap.size) #[.int .u64 c, .int .u64 d] := At.gr (by repeat (first | exact A_c | refine At.alloc ?_ _)) hG
          replace A_p : At w12 (w7.heap.size) #[.int .u64 p1, .int .u64 p2] := At.gr (by repeat (first | exact A_p | refine At.alloc ?_ _)) hG
          replace A_r : At w12 (w7.heap.size + 1) #[.int .u64 p3, .int .u64 p4] := At.gr (by repeat (first | exact A_r | refine At.alloc ?_ _)) hG
          replace hB : Gr w w12 := Gr.trans (by repeat (first | exact hB | refine Gr.alloc ?_ _)) hG
          clear hG
          have ⟨z_a, q_a, _⟩ := A_a
          have ⟨z_c, q_c, _⟩ := A_c
          have ⟨z_p, q_p, _⟩ := A_p
          have ⟨z_r, q_r, _⟩ := A_r
          go_wp2_with fail
          refine (u2 _).mono ?_
          rintro x w13 ⟨rfl, hG⟩
          clear z_a q_a z_c q_c z_p q_p z_r q_r
          replace A_a : At w13 (w3.heap.size) #[.int .u64 a, .int .u64 b] := At.gr (by repeat (first | exact A_a | refine At.alloc ?_ _)) hG
          replace A_c : At w13 (w4.heap.size) #[.int .u64 c, .int .u64 d] := At.gr (by repeat (first | exact A_c | refine At.alloc ?_ _)) hG
          replace A_p : At w13 (w7.heap.size) #[.int .u64 p1, .int .u64 p2] := At.gr (by repeat (first | exact A_p | refine At.alloc ?_ _)) hG
          replace A_r : At w13 (w7.heap.size + 1) #[.int .u64 p3, .int .u64 p4] := At.gr (by repeat (first | exact A_r | refine At.alloc ?_ _)) hG
          replace hB : Gr w w13 := Gr.trans (by repeat (first | exact hB | refine Gr.alloc ?_ _)) hG
          clear hG
          have ⟨z_a, q_a, _⟩ := A_a
          have ⟨z_c, q_c, _⟩ := A_c
          have ⟨z_p, q_p, _⟩ := A_p
          have ⟨z_r, q_r, _⟩ := A_r
          go_upto_region 22 with fail
          clear z_a q_a z_c q_c z_p q_p z_r q_r
          refine wp_world (fun w14 => At w14 (w3.heap.size) #[.int .u64 a, .int .u64 b] ∧ At w14 (w4.heap.size) #[.int .u64 c, .int .u64 d] ∧ At w14 (w7.heap.size) #[.int .u64 p1, .int .u64 p2] ∧ At w14 (w7.heap.size + 1) #[.int .u64 p3, .int .u64 p4] ∧ Gr w w14) ⟨?_, ?_, ?_, ?_, ?_⟩ ?_
          · repeat (first | exact A_a | refine At.alloc ?_ _)
          · repeat (first | exact A_c | refine At.alloc ?_ _)
          · repeat (first | exact A_p | refine At.alloc ?_ _)
          · repeat (first | exact A_r | refine At.alloc ?_ _)
          · repeat (first | exact hB | refine Gr.alloc ?_ _)
          clear A_a A_c A_p A_r hB
          rintro w14 ⟨A_a, A_c, A_p, A_r, hB⟩
          have M_a := A_a.grown0
          have M_c := A_c.grown0
          have M_p := A_p.grown0
          have M_r := A_r.grown0
          have ⟨z_a, q_a, _⟩ := A_a
          have ⟨z_c, q_c, _⟩ := A_c
          have ⟨z_p, q_p, _⟩ := A_p
          have ⟨z_r, q_r, _⟩ := A_r
          go_wp2_with (first | (go_at_call 24; refine (meets_y _ _ _ _ _ (by assumption)).mono ?_; rintro x w' ⟨rfl, hG⟩; (try replace hG := Gr.of_grow hG); obtain ⟨l, rfl⟩ := hG) | (go_at_call 25; refine (met_y _ _ _ _ _ (by assumption)).mono ?_; rintro x w' ⟨rfl, hG⟩; (try replace hG := Gr.of_grow hG); obtain ⟨l, rfl⟩ := hG))
          go_ret
          exact ⟨rfl, (hB.grow _).below⟩
  · obtain rfl : kk = k := kp (by omega)
    have h' : ¬ kk < 0 := h
    clear kp kn hk
    by_cases e4 : n % 4 = 0
    · have e5 : (n % 4 == 0) = true := by simp [e4]
      clear e4
      go_enter Try.func7, Try.ntmps7
      go_wp2_with fail
      refine (head_any _).mono ?_
      rintro x w1 ⟨rfl, hG⟩
      replace hB : Gr w w1 := Gr.trans (by repeat (first | exact hB | refine Gr.alloc ?_ _)) hG
      clear hG
      go_upto_region 5 with fail
      refine wp_world (fun w2 => At w2 (w1.heap.size) brA ∧ Gr w w2) ⟨?_, ?_⟩ ?_
      · repeat (first | exact At.new _ _ _ | exact At.next _ _ _ _ | refine At.alloc ?_ _)
      · repeat (first | exact hB | refine Gr.alloc ?_ _)
      clear hB
      rintro w2 ⟨A_l, hB⟩
      have ⟨z_l, q_l, _⟩ := A_l
      go_wp2_with fail
      refine (f1 _).mono ?_
      rintro x w3 ⟨rfl, hG⟩
      clear z_l q_l
      replace A_l : At w3 (w1.heap.size) brA := At.gr (by repeat (first | exact A_l | refine At.alloc ?_ _)) hG
      replace hB : Gr w w3 := Gr.trans (by repeat (first | exact hB | refine Gr.alloc ?_ _)) hG
      clear hG
      clear A_l
      go_wp2_with fail
      refine (f2 _).mono ?_
      rintro x w4 ⟨rfl, hG⟩
      have A_a : At w4 (w3.heap.size) #[.int .u64 a, .int .u64 b] := At.gr (by repeat (first | exact At.new _ _ _ | exact At.next _ _ _ _ | refine At.alloc ?_ _)) hG
      replace hB : Gr w w4 := Gr.trans (by repeat (first | exact hB | refine Gr.alloc ?_ _)) hG
      clear hG
      have ⟨z_a, q_a, _⟩ := A_a
      go_wp2_with fail
      refine (px _).mono ?_
      rintro x w5 ⟨rfl, hG⟩
      clear z_a q_a
      replace A_a : At w5 (w3.heap.size) #[.int .u64 a, .int .u64 b] := At.gr (by repeat (first | exact A_a | refine At.alloc ?_ _)) hG
      have A_c : At w5 (w4.heap.size) #[.int .u64 c, .int .u64 d] := At.gr (by repeat (first | exact At.new _ _ _ | exact At.next _ _ _ _ | refine At.alloc ?_ _)) hG
      replace hB : Gr w w5 := Gr.trans (by repeat (first | exact hB | refine Gr.alloc ?_ _)) hG
      clear hG
      have ⟨z_a, q_a, _⟩ := A_a
      have ⟨z_c, q_c, _⟩ := A_c
      go_wp2_with fail
      refine (py _).mono ?_
      rintro x w6 ⟨rfl, hG⟩
      clear z_a q_a z_c q_c
      replace A_a : At w6 (w3.heap.size) #[.int .u64 a, .int .u64 b] := At.gr (by repeat (first | exact A_a | refine At.alloc ?_ _)) hG
      replace A_c : At w6 (w4.heap.size) #[.int .u64 c, .int .u64 d] := At.gr (by repeat (first | exact A_c | refine At.alloc ?_ _)) hG
      replace hB : Gr w w6 := Gr.trans (by repeat (first | exact hB | refine Gr.alloc ?_ _)) hG
      clear hG
      have ⟨z_a, q_a, _⟩ := A_a
      have ⟨z_c, q_c, _⟩ := A_c
      go_wp2_with fail
      refine (hr _).mono ?_
      rintro x w7 ⟨rfl, hG⟩
      clear z_a q_a z_c q_c
      replace A_a : At w7 (w3.heap.size) #[.int .u64 a, .int .u64 b] := At.gr (by repeat (first | exact A_a | refine At.alloc ?_ _)) hG
      replace A_c : At w7 (w4.heap.size) #[.int .u64 c, .int .u64 d] := At.gr (by repeat (first | exact A_c | refine At.alloc ?_ _)) hG
      replace hB : Gr w w7 := Gr.trans (by repeat (first | exact hB | refine Gr.alloc ?_ _)) hG
      clear hG
      have ⟨z_a, q_a, _⟩ := A_a
      have ⟨z_c, q_c, _⟩ := A_c
      go_wp2_with fail
      refine (tk yy _).mono ?_
      rintro x w8 ⟨rfl, hG⟩
      clear z_a q_a z_c q_c
      replace A_a : At w8 (w3.heap.size) #[.int .u64 a, .int .u64 b] := At.gr (by repeat (first | exact A_a | refine At.alloc ?_ _)) hG
      replace A_c : At w8 (w4.heap.size) #[.int .u64 c, .int .u64 d] := At.gr (by repeat (first | exact A_c | refine At.alloc ?_ _)) hG
      have A_p : At w8 (w7.heap.size) #[.int .u64 p1, .int .u64 p2] := At.gr (by repeat (first | exact At.new _ _ _ | exact At.next _ _ _ _ | refine At.alloc ?_ _)) hG
      have A_r : At w8 (w7.heap.size + 1) #[.int .u64 p3, .int .u64 p4] := At.gr (by repeat (first | exact At.new _ _ _ | exact At.next _ _ _ _ | refine At.alloc ?_ _)) hG
      replace hB : Gr w w8 := Gr.trans (by repeat (first | exact hB | refine Gr.alloc ?_ _)) hG
      clear hG
      have ⟨z_a, q_a, _⟩ := A_a
      have ⟨z_c, q_c, _⟩ := A_c
      have ⟨z_p, q_p, _⟩ := A_p
      have ⟨z_r, q_r, _⟩ := A_r
      go_wp2_with fail
      refine (h1 _).mono ?_
      rintro x w9 ⟨rfl, hG⟩
      clear z_a q_a z_c q_c z_p q_p z_r q_r
      replace A_a : At w9 (w3.heap.size) #[.int .u64 a, .int .u64 b] := At.gr (by repeat (first | exact A_a | refine At.alloc ?_ _)) hG
      replace A_c : At w9 (w4.heap.size) #[.int .u64 c, .int .u64 d] := At.gr (by repeat (first | exact A_c | refine At.alloc ?_ _)) hG
      replace A_p : At w9 (w7.heap.size) #[.int .u64 p1, .int .u64 p2] := At.gr (by repeat (first | exact A_p | refine At.alloc ?_ _)) hG
      replace A_r : At w9 (w7.heap.size + 1) #[.int .u64 p3, .int .u64 p4] := At.gr (by repeat (first | exact A_r | refine At.alloc ?_ _)) hG
      replace hB : Gr w w9 := Gr.trans (by repeat (first | exact hB | refine Gr.alloc ?_ _)) hG
      clear hG
      have ⟨z_a, q_a, _⟩ := A_a
      have ⟨z_c, q_c, _⟩ := A_c
      have ⟨z_p, q_p, _⟩ := A_p
      have ⟨z_r, q_r, _⟩ := A_r
      go_wp2_with fail
      refine (h2 yy _).mono ?_
      rintro x w10 ⟨rfl, hG⟩
      clear z_a q_a z_c q_c z_p q_p z_r q_r
      replace A_a : At w10 (w3.heap.size) #[.int .u64 a, .int .u64 b] := At.gr (by repeat (first | exact A_a | refine At.alloc ?_ _)) hG
      replace A_c : At w10 (w4.heap.size) #[.int .u64 c, .int .u64 d] := At.gr (by repeat (first | exact A_c | refine At.alloc ?_ _)) hG
      replace A_p : At w10 (w7.heap.size) #[.int .u64 p1, .int .u64 p2] := At.gr (by repeat (first | exact A_p | refine At.alloc ?_ _)) hG
      replace A_r : At w10 (w7.heap.size + 1) #[.int .u64 p3, .int .u64 p4] := At.gr (by repeat (first | exact A_r | refine At.alloc ?_ _)) hG
      replace hB : Gr w w10 := Gr.trans (by repeat (first | exact hB | refine Gr.alloc ?_ _)) hG
      clear hG
      have ⟨z_a, q_a, _⟩ := A_a
      have ⟨z_c, q_c, _⟩ := A_c
      have ⟨z_p, q_p, _⟩ := A_p
      have ⟨z_r, q_r, _⟩ := A_r
      go_upto_region 16 with fail
      clear z_a q_a z_c q_c z_p q_p z_r q_r
      refine wp_world (fun w11 => At w11 (w3.heap.size) #[.int .u64 a, .int .u64 b] ∧ At w11 (w4.heap.size) #[.int .u64 c, .int .u64 d] ∧ At w11 (w7.heap.size) #[.int .u64 p1, .int .u64 p2] ∧ At w11 (w7.heap.size + 1) #[.int .u64 p3, .int .u64 p4] ∧ Gr w w11) ⟨?_, ?_, ?_, ?_, ?_⟩ ?_
      · repeat (first | exact A_a | refine At.alloc ?_ _)
      · repeat (first | exact A_c | refine At.alloc ?_ _)
      · repeat (first | exact A_p | refine At.alloc ?_ _)
      · repeat (first | exact A_r | refine At.alloc ?_ _)
      · repeat (first | exact hB | refine Gr.alloc ?_ _)
      clear A_a A_c A_p A_r hB
      rintro w11 ⟨A_a, A_c, A_p, A_r, hB⟩
      have tt := TB.out
      generalize takenB op x0 yy = t at tt ⊢
      generalize hasN p1 p2 x0 = i at tt ⊢
      generalize hasN p3 p4 yy = j at tt ⊢
      obtain ⟨t1, t2, t3⟩ := tt
      clear TA TB f1 f2 px py hr tk h1 h2
      cases ok with
      | false =>
        have t0 : t = false := by
          cases t with
          | false => rfl
          | true => exact absurd (t1 rfl).1 (by simp)
        subst t0
        obtain ⟨rfl, rfl, rfl, rfl⟩ := t2 rfl
        clear t1 t2 t3
        have ⟨z_a, q_a, _⟩ := A_a
        have ⟨z_c, q_c, _⟩ := A_c
        have ⟨z_p, q_p, _⟩ := A_p
        have ⟨z_r, q_r, _⟩ := A_r
        go_wp2_with fail
        go_ret
        exact ⟨rfl, hB.below⟩
      | true =>
        obtain ⟨g1, g2, g3, g4, g5, g6, g7, g8⟩ := t3 rfl
        have tij : t = false ∨ (t = true ∧ i = true ∧ j = true) := by
          cases t with
          | false => exact .inl rfl
          | true => exact .inr ⟨rfl, (t1 rfl).2⟩
        have K1 : Hid ((21 ≤ op ∧ op ≤ 24) ∧ meetsB op p1 c d = true) := ⟨HO.out, g5⟩
        have K2 : Hid ((21 ≤ op ∧ op ≤ 24) ∧ meetsB op p2 c d = true) := ⟨HO.out, g6⟩
        have K3 : Hid ((21 ≤ op ∧ op ≤ 24) ∧ metB op a b p3 = true) := ⟨HO.out, g7⟩
        have K4 : Hid ((21 ≤ op ∧ op ≤ 24) ∧ metB op a b p4 = true) := ⟨HO.out, g8⟩
        have u1 := Under_any p1 p2 a b
        have u2 := Under_any p3 p4 c d
        rw [g1] at u1
        rw [g2] at u2
        have d1 : decide (p1 ≤ p2) = true := by simp; omega
        have d2 : decide (p3 ≤ p4) = true := by simp; omega
        clear t1 t2 t3 g1 g2 g3 g4 g5 g6 g7 g8 HO
        rcases tij with rfl | ⟨rfl, rfl, rfl⟩
        · have ⟨z_a, q_a, _⟩ := A_a
          have ⟨z_c, q_c, _⟩ := A_c
          have ⟨z_p, q_p, _⟩ := A_p
          have ⟨z_r, q_r, _⟩ := A_r
          go_wp2_with fail
          refine (u1 _).mono ?_
          rintro x w12 ⟨rfl, hG⟩
          clear z_a q_a z_c q_c z_p q_p z_r q_r
          replace A_a : At w12 (w3.heap.size) #[.int .u64 a, .int .u64 b] := At.gr (by repeat (first | exact A_a | refine At.alloc ?_ _)) hG
          replace A_c : At w12 (w4.heap.size) #[.int .u64 c, .int .u64 d] := At.gr (by repeat (first | exact A_c | refine At.alloc ?_ _)) hG
          replace A_p : At w12 (w7.heap.size) #[.int .u64 p1, .int .u64 p2] := At.gr (by repeat (first | exact A_p | refine At.alloc ?_ _)) hG
          replace A_r : At w12 (w7.heap.size + 1) #[.int .u64 p3, .int .u64 p4] := At.gr (by repeat (first | exact A_r | refine At.alloc ?_ _)) hG
          replace hB : Gr w w12 := Gr.trans (by repeat (first | exact hB | refine Gr.alloc ?_ _)) hG
          clear hG
          have ⟨z_a, q_a, _⟩ := A_a
          have ⟨z_c, q_c, _⟩ := A_c
          have ⟨z_p, q_p, _⟩ := A_p
          have ⟨z_r, q_r, _⟩ := A_r
          go_wp2_with fail
          refine (u2 _).mono ?_
          rintro x w13 ⟨rfl, hG⟩
          clear z_a q_a z_c q_c z_p q_p z_r q_r
          replace A_a : At w13 (w3.heap.size) #[.int .u64 a, .int .u64 b] := At.gr (by repeat (first | exact A_a | refine At.alloc ?_ _)) hG
          replace A_c : At w13 (w4.heap.size) #[.int .u64 c, .int .u64 d] := At.gr (by repeat (first | exact A_c | refine At.alloc ?_ _)) hG
          replace A_p : At w13 (w7.heap.size) #[.int .u64 p1, .int .u64 p2] := At.gr (by repeat (first | exact A_p | refine At.alloc ?_ _)) hG
          replace A_r : At w13 (w7.heap.size + 1) #[.int .u64 p3, .int .u64 p4] := At.gr (by repeat (first | exact A_r | refine At.alloc ?_ _)) hG
          replace hB : Gr w w13 := Gr.trans (by repeat (first | exact hB | refine Gr.alloc ?_ _)) hG
          clear hG
          have ⟨z_a, q_a, _⟩ := A_a
          have ⟨z_c, q_c, _⟩ := A_c
          have ⟨z_p, q_p, _⟩ := A_p
          have ⟨z_r, q_r, _⟩ := A_r
          go_upto_region 22 with fail
          clear z_a q_a z_c q_c z_p q_p z_r q_r
          refine wp_world (fun w14 => At w14 (w3.heap.size) #[.int .u64 a, .int .u64 b] ∧ At w14 (w4.heap.size) #[.int .u64 c, .int .u64 d] ∧ At w14 (w7.heap.size) #[.int .u64 p1, .int .u64 p2] ∧ At w14 (w7.heap.size + 1) #[.int .u64 p3, .int .u64 p4] ∧ Gr w w14) ⟨?_, ?_, ?_, ?_, ?_⟩ ?_
          · repeat (first | exact A_a | refine At.alloc ?_ _)
          · repeat (first | exact A_c | refine At.alloc ?_ _)
          · repeat (first | exact A_p | refine At.alloc ?_ _)
          · repeat (first | exact A_r | refine At.alloc ?_ _)
          · repeat (first | exact hB | refine Gr.alloc ?_ _)
          clear A_a A_c A_p A_r hB
          rintro w14 ⟨A_a, A_c, A_p, A_r, hB⟩
          have M_a := A_a.grown0
          have M_c := A_c.grown0
          have M_p := A_p.grown0
          have M_r := A_r.grown0
          have ⟨z_a, q_a, _⟩ := A_a
          have ⟨z_c, q_c, _⟩ := A_c
          have ⟨z_p, q_p, _⟩ := A_p
          have ⟨z_r, q_r, _⟩ := A_r
          go_wp2_with (first | (go_at_call 24; refine (meets_y _ _ _ _ _ (by assumption)).mono ?_; rintro x w' ⟨rfl, hG⟩; (try replace hG := Gr.of_grow hG); obtain ⟨l, rfl⟩ := hG) | (go_at_call 25; refine (met_y _ _ _ _ _ (by assumption)).mono ?_; rintro x w' ⟨rfl, hG⟩; (try replace hG := Gr.of_grow hG); obtain ⟨l, rfl⟩ := hG))
          go_ret
          exact ⟨rfl, (hB.grow _).below⟩
        · have ⟨z_a, q_a, _⟩ := A_a
          have ⟨z_c, q_c, _⟩ := A_c
          have ⟨z_p, q_p, _⟩ := A_p
          have ⟨z_r, q_r, _⟩ := A_r
          go_wp2_with fail
          refine (u1 _).mono ?_
          rintro x w12 ⟨rfl, hG⟩
          clear z_a q_a z_c q_c z_p q_p z_r q_r
          replace A_a : At w12 (w3.heap.size) #[.int .u64 a, .int .u64 b] := At.gr (by repeat (first | exact A_a | refine At.alloc ?_ _)) hG
          replace A_c : At w12 (w4.heap.size) #[.int .u64 c, .int .u64 d] := At.gr (by repeat (first | exact A_c | refine At.alloc ?_ _)) hG
          replace A_p : At w12 (w7.heap.size) #[.int .u64 p1, .int .u64 p2] := At.gr (by repeat (first | exact A_p | refine At.alloc ?_ _)) hG
          replace A_r : At w12 (w7.heap.size + 1) #[.int .u64 p3, .int .u64 p4] := At.gr (by repeat (first | exact A_r | refine At.alloc ?_ _)) hG
          replace hB : Gr w w12 := Gr.trans (by repeat (first | exact hB | refine Gr.alloc ?_ _)) hG
          clear hG
          have ⟨z_a, q_a, _⟩ := A_a
          have ⟨z_c, q_c, _⟩ := A_c
          have ⟨z_p, q_p, _⟩ := A_p
          have ⟨z_r, q_r, _⟩ := A_r
          go_wp2_with fail
          refine (u2 _).mono ?_
          rintro x w13 ⟨rfl, hG⟩
          clear z_a q_a z_c q_c z_p q_p z_r q_r
          replace A_a : At w13 (w3.heap.size) #[.int .u64 a, .int .u64 b] := At.gr (by repeat (first | exact A_a | refine At.alloc ?_ _)) hG
          replace A_c : At w13 (w4.heap.size) #[.int .u64 c, .int .u64 d] := At.gr (by repeat (first | exact A_c | refine At.alloc ?_ _)) hG
          replace A_p : At w13 (w7.heap.size) #[.int .u64 p1, .int .u64 p2] := At.gr (by repeat (first | exact A_p | refine At.alloc ?_ _)) hG
          replace A_r : At w13 (w7.heap.size + 1) #[.int .u64 p3, .int .u64 p4] := At.gr (by repeat (first | exact A_r | refine At.alloc ?_ _)) hG
          replace hB : Gr w w13 := Gr.trans (by repeat (first | exact hB | refine Gr.alloc ?_ _)) hG
          clear hG
          have ⟨z_a, q_a, _⟩ := A_a
          have ⟨z_c, q_c, _⟩ := A_c
          have ⟨z_p, q_p, _⟩ := A_p
          have ⟨z_r, q_r, _⟩ := A_r
          go_upto_region 22 with fail
          clear z_a q_a z_c q_c z_p q_p z_r q_r
          refine wp_world (fun w14 => At w14 (w3.heap.size) #[.int .u64 a, .int .u64 b] ∧ At w14 (w4.heap.size) #[.int .u64 c, .int .u64 d] ∧ At w14 (w7.heap.size) #[.int .u64 p1, .int .u64 p2] ∧ At w14 (w7.heap.size + 1) #[.int .u64 p3, .int .u64 p4] ∧ Gr w w14) ⟨?_, ?_, ?_, ?_, ?_⟩ ?_
          · repeat (first | exact A_a | refine At.alloc ?_ _)
          · repeat (first | exact A_c | refine At.alloc ?_ _)
          · repeat (first | exact A_p | refine At.alloc ?_ _)
          · repeat (first | exact A_r | refine At.alloc ?_ _)
          · repeat (first | exact hB | refine Gr.alloc ?_ _)
          clear A_a A_c A_p A_r hB
          rintro w14 ⟨A_a, A_c, A_p, A_r, hB⟩
          have M_a := A_a.grown0
          have M_c := A_c.grown0
          have M_p := A_p.grown0
          have M_r := A_r.grown0
          have ⟨z_a, q_a, _⟩ := A_a
          have ⟨z_c, q_c, _⟩ := A_c
          have ⟨z_p, q_p, _⟩ := A_p
          have ⟨z_r, q_r, _⟩ := A_r
          go_wp2_with (first | (go_at_call 24; refine (meets_y _ _ _ _ _ (by assumption)).mono ?_; rintro x w' ⟨rfl, hG⟩; (try replace hG := Gr.of_grow hG); obtain ⟨l, rfl⟩ := hG) | (go_at_call 25; refine (met_y _ _ _ _ _ (by assumption)).mono ?_; rintro x w' ⟨rfl, hG⟩; (try replace hG := Gr.of_grow hG); obtain ⟨l, rfl⟩ := hG))
          go_ret
          exact ⟨rfl, (hB.grow _).below⟩
    · have e5 : (n % 4 == 0) = false := by simp [e4]
      clear e4
      go_enter Try.func7, Try.ntmps7
      go_wp2_with fail
      refine (head_any _).mono ?_
      rintro x w1 ⟨rfl, hG⟩
      replace hB : Gr w w1 := Gr.trans (by repeat (first | exact hB | refine Gr.alloc ?_ _)) hG
      clear hG
      go_upto_region 5 with fail
      refine wp_world (fun w2 => At w2 (w1.heap.size) brA ∧ Gr w w2) ⟨?_, ?_⟩ ?_
      · repeat (first | exact At.new _ _ _ | exact At.next _ _ _ _ | refine At.alloc ?_ _)
      · repeat (first | exact hB | refine Gr.alloc ?_ _)
      clear hB
      rintro w2 ⟨A_l, hB⟩
      have ⟨z_l, q_l, _⟩ := A_l
      go_wp2_with fail
      refine (f1 _).mono ?_
      rintro x w3 ⟨rfl, hG⟩
      clear z_l q_l
      replace A_l : At w3 (w1.heap.size) brA := At.gr (by repeat (first | exact A_l | refine At.alloc ?_ _)) hG
      replace hB : Gr w w3 := Gr.trans (by repeat (first | exact hB | refine Gr.alloc ?_ _)) hG
      clear hG
      clear A_l
      go_wp2_with fail
      refine (f2 _).mono ?_
      rintro x w4 ⟨rfl, hG⟩
      have A_a : At w4 (w3.heap.size) #[.int .u64 a, .int .u64 b] := At.gr (by repeat (first | exact At.new _ _ _ | exact At.next _ _ _ _ | refine At.alloc ?_ _)) hG
      replace hB : Gr w w4 := Gr.trans (by repeat (first | exact hB | refine Gr.alloc ?_ _)) hG
      clear hG
      have ⟨z_a, q_a, _⟩ := A_a
      go_wp2_with fail
      refine (px _).mono ?_
      rintro x w5 ⟨rfl, hG⟩
      clear z_a q_a
      replace A_a : At w5 (w3.heap.size) #[.int .u64 a, .int .u64 b] := At.gr (by repeat (first | exact A_a | refine At.alloc ?_ _)) hG
      have A_c : At w5 (w4.heap.size) #[.int .u64 c, .int .u64 d] := At.gr (by repeat (first | exact At.new _ _ _ | exact At.next _ _ _ _ | refine At.alloc ?_ _)) hG
      replace hB : Gr w w5 := Gr.trans (by repeat (first | exact hB | refine Gr.alloc ?_ _)) hG
      clear hG
      have ⟨z_a, q_a, _⟩ := A_a
      have ⟨z_c, q_c, _⟩ := A_c
      go_wp2_with fail
      refine (py _).mono ?_
      rintro x w6 ⟨rfl, hG⟩
      clear z_a q_a z_c q_c
      replace A_a : At w6 (w3.heap.size) #[.int .u64 a, .int .u64 b] := At.gr (by repeat (first | exact A_a | refine At.alloc ?_ _)) hG
      replace A_c : At w6 (w4.heap.size) #[.int .u64 c, .int .u64 d] := At.gr (by repeat (first | exact A_c | refine At.alloc ?_ _)) hG
      replace hB : Gr w w6 := Gr.trans (by repeat (first | exact hB | refine Gr.alloc ?_ _)) hG
      clear hG
      have ⟨z_a, q_a, _⟩ := A_a
      have ⟨z_c, q_c, _⟩ := A_c
      go_wp2_with fail
      refine (hr _).mono ?_
      rintro x w7 ⟨rfl, hG⟩
      clear z_a q_a z_c q_c
      replace A_a : At w7 (w3.heap.size) #[.int .u64 a, .int .u64 b] := At.gr (by repeat (first | exact A_a | refine At.alloc ?_ _)) hG
      replace A_c : At w7 (w4.heap.size) #[.int .u64 c, .int .u64 d] := At.gr (by repeat (first | exact A_c | refine At.alloc ?_ _)) hG
      replace hB : Gr w w7 := Gr.trans (by repeat (first | exact hB | refine Gr.alloc ?_ _)) hG
      clear hG
      have ⟨z_a, q_a, _⟩ := A_a
      have ⟨z_c, q_c, _⟩ := A_c
      go_wp2_with fail
      refine (tk y0 _).mono ?_
      rintro x w8 ⟨rfl, hG⟩
      clear z_a q_a z_c q_c
      replace A_a : At w8 (w3.heap.size) #[.int .u64 a, .int .u64 b] := At.gr (by repeat (first | exact A_a | refine At.alloc ?_ _)) hG
      replace A_c : At w8 (w4.heap.size) #[.int .u64 c, .int .u64 d] := At.gr (by repeat (first | exact A_c | refine At.alloc ?_ _)) hG
      have A_p : At w8 (w7.heap.size) #[.int .u64 p1, .int .u64 p2] := At.gr (by repeat (first | exact At.new _ _ _ | exact At.next _ _ _ _ | refine At.alloc ?_ _)) hG
      have A_r : At w8 (w7.heap.size + 1) #[.int .u64 p3, .int .u64 p4] := At.gr (by repeat (first | exact At.new _ _ _ | exact At.next _ _ _ _ | refine At.alloc ?_ _)) hG
      replace hB : Gr w w8 := Gr.trans (by repeat (first | exact hB | refine Gr.alloc ?_ _)) hG
      clear hG
      have ⟨z_a, q_a, _⟩ := A_a
      have ⟨z_c, q_c, _⟩ := A_c
      have ⟨z_p, q_p, _⟩ := A_p
      have ⟨z_r, q_r, _⟩ := A_r
      go_wp2_with fail
      refine (h1 _).mono ?_
      rintro x w9 ⟨rfl, hG⟩
      clear z_a q_a z_c q_c z_p q_p z_r q_r
      replace A_a : At w9 (w3.heap.size) #[.int .u64 a, .int .u64 b] := At.gr (by repeat (first | exact A_a | refine At.alloc ?_ _)) hG
      replace A_c : At w9 (w4.heap.size) #[.int .u64 c, .int .u64 d] := At.gr (by repeat (first | exact A_c | refine At.alloc ?_ _)) hG
      replace A_p : At w9 (w7.heap.size) #[.int .u64 p1, .int .u64 p2] := At.gr (by repeat (first | exact A_p | refine At.alloc ?_ _)) hG
      replace A_r : At w9 (w7.heap.size + 1) #[.int .u64 p3, .int .u64 p4] := At.gr (by repeat (first | exact A_r | refine At.alloc ?_ _)) hG
      replace hB : Gr w w9 := Gr.trans (by repeat (first | exact hB | refine Gr.alloc ?_ _)) hG
      clear hG
      have ⟨z_a, q_a, _⟩ := A_a
      have ⟨z_c, q_c, _⟩ := A_c
      have ⟨z_p, q_p, _⟩ := A_p
      have ⟨z_r, q_r, _⟩ := A_r
      go_wp2_with fail
      refine (h2 y0 _).mono ?_
      rintro x w10 ⟨rfl, hG⟩
      clear z_a q_a z_c q_c z_p q_p z_r q_r
      replace A_a : At w10 (w3.heap.size) #[.int .u64 a, .int .u64 b] := At.gr (by repeat (first | exact A_a | refine At.alloc ?_ _)) hG
      replace A_c : At w10 (w4.heap.size) #[.int .u64 c, .int .u64 d] := At.gr (by repeat (first | exact A_c | refine At.alloc ?_ _)) hG
      replace A_p : At w10 (w7.heap.size) #[.int .u64 p1, .int .u64 p2] := At.gr (by repeat (first | exact A_p | refine At.alloc ?_ _)) hG
      replace A_r : At w10 (w7.heap.size + 1) #[.int .u64 p3, .int .u64 p4] := At.gr (by repeat (first | exact A_r | refine At.alloc ?_ _)) hG
      replace hB : Gr w w10 := Gr.trans (by repeat (first | exact hB | refine Gr.alloc ?_ _)) hG
      clear hG
      have ⟨z_a, q_a, _⟩ := A_a
      have ⟨z_c, q_c, _⟩ := A_c
      have ⟨z_p, q_p, _⟩ := A_p
      have ⟨z_r, q_r, _⟩ := A_r
      go_upto_region 16 with fail
      clear z_a q_a z_c q_c z_p q_p z_r q_r
      refine wp_world (fun w11 => At w11 (w3.heap.size) #[.int .u64 a, .int .u64 b] ∧ At w11 (w4.heap.size) #[.int .u64 c, .int .u64 d] ∧ At w11 (w7.heap.size) #[.int .u64 p1, .int .u64 p2] ∧ At w11 (w7.heap.size + 1) #[.int .u64 p3, .int .u64 p4] ∧ Gr w w11) ⟨?_, ?_, ?_, ?_, ?_⟩ ?_
      · repeat (first | exact A_a | refine At.alloc ?_ _)
      · repeat (first | exact A_c | refine At.alloc ?_ _)
      · repeat (first | exact A_p | refine At.alloc ?_ _)
      · repeat (first | exact A_r | refine At.alloc ?_ _)
      · repeat (first | exact hB | refine Gr.alloc ?_ _)
      clear A_a A_c A_p A_r hB
      rintro w11 ⟨A_a, A_c, A_p, A_r, hB⟩
      have tt := TA.out
      generalize takenB op x0 y0 = t at tt ⊢
      generalize hasN p1 p2 x0 = i at tt ⊢
      generalize hasN p3 p4 y0 = j at tt ⊢
      obtain ⟨t1, t2, t3⟩ := tt
      clear TA TB f1 f2 px py hr tk h1 h2
      cases ok with
      | false =>
        have t0 : t = false := by
          cases t with
          | false => rfl
          | true => exact absurd (t1 rfl).1 (by simp)
        subst t0
        obtain ⟨rfl, rfl, rfl, rfl⟩ := t2 rfl
        clear t1 t2 t3
        have ⟨z_a, q_a, _⟩ := A_a
        have ⟨z_c, q_c, _⟩ := A_c
        have ⟨z_p, q_p, _⟩ := A_p
        have ⟨z_r, q_r, _⟩ := A_r
        go_wp2_with fail
        go_ret
        exact ⟨rfl, hB.below⟩
      | true =>
        obtain ⟨g1, g2, g3, g4, g5, g6, g7, g8⟩ := t3 rfl
        have tij : t = false ∨ (t = true ∧ i = true ∧ j = true) := by
          cases t with
          | false => exact .inl rfl
          | true => exact .inr ⟨rfl, (t1 rfl).2⟩
        have K1 : Hid ((21 ≤ op ∧ op ≤ 24) ∧ meetsB op p1 c d = true) := ⟨HO.out, g5⟩
        have K2 : Hid ((21 ≤ op ∧ op ≤ 24) ∧ meetsB op p2 c d = true) := ⟨HO.out, g6⟩
        have K3 : Hid ((21 ≤ op ∧ op ≤ 24) ∧ metB op a b p3 = true) := ⟨HO.out, g7⟩
        have K4 : Hid ((21 ≤ op ∧ op ≤ 24) ∧ metB op a b p4 = true) := ⟨HO.out, g8⟩
        have u1 := Under_any p1 p2 a b
        have u2 := Under_any p3 p4 c d
        rw [g1] at u1
        rw [g2] at u2
        have d1 : decide (p1 ≤ p2) = true := by simp; omega
        have d2 : decide (p3 ≤ p4) = true := by simp; omega
        clear t1 t2 t3 g1 g2 g3 g4 g5 g6 g7 g8 HO
        rcases tij with rfl | ⟨rfl, rfl, rfl⟩
        · have ⟨z_a, q_a, _⟩ := A_a
          have ⟨z_c, q_c, _⟩ := A_c
          have ⟨z_p, q_p, _⟩ := A_p
          have ⟨z_r, q_r, _⟩ := A_r
          go_wp2_with fail
          refine (u1 _).mono ?_
          rintro x w12 ⟨rfl, hG⟩
          clear z_a q_a z_c q_c z_p q_p z_r q_r
          replace A_a : At w12 (w3.heap.size) #[.int .u64 a, .int .u64 b] := At.gr (by repeat (first | exact A_a | refine At.alloc ?_ _)) hG
          replace A_c : At w12 (w4.heap.size) #[.int .u64 c, .int .u64 d] := At.gr (by repeat (first | exact A_c | refine At.alloc ?_ _)) hG
          replace A_p : At w12 (w7.heap.size) #[.int .u64 p1, .int .u64 p2] := At.gr (by repeat (first | exact A_p | refine At.alloc ?_ _)) hG
          replace A_r : At w12 (w7.heap.size + 1) #[.int .u64 p3, .int .u64 p4] := At.gr (by repeat (first | exact A_r | refine At.alloc ?_ _)) hG
          replace hB : Gr w w12 := Gr.trans (by repeat (first | exact hB | refine Gr.alloc ?_ _)) hG
          clear hG
          have ⟨z_a, q_a, _⟩ := A_a
          have ⟨z_c, q_c, _⟩ := A_c
          have ⟨z_p, q_p, _⟩ := A_p
          have ⟨z_r, q_r, _⟩ := A_r
          go_wp2_with fail
          refine (u2 _).mono ?_
          rintro x w13 ⟨rfl, hG⟩
          clear z_a q_a z_c q_c z_p q_p z_r q_r
          replace A_a : At w13 (w3.heap.size) #[.int .u64 a, .int .u64 b] := At.gr (by repeat (first | exact A_a | refine At.alloc ?_ _)) hG
          replace A_c : At w13 (w4.heap.size) #[.int .u64 c, .int .u64 d] := At.gr (by repeat (first | exact A_c | refine At.alloc ?_ _)) hG
          replace A_p : At w13 (w7.heap.size) #[.int .u64 p1, .int .u64 p2] := At.gr (by repeat (first | exact A_p | refine At.alloc ?_ _)) hG
          replace A_r : At w13 (w7.heap.size + 1) #[.int .u64 p3, .int .u64 p4] := At.gr (by repeat (first | exact A_r | refine At.alloc ?_ _)) hG
          replace hB : Gr w w13 := Gr.trans (by repeat (first | exact hB | refine Gr.alloc ?_ _)) hG
          clear hG
          have ⟨z_a, q_a, _⟩ := A_a
          have ⟨z_c, q_c, _⟩ := A_c
          have ⟨z_p, q_p, _⟩ := A_p
          have ⟨z_r, q_r, _⟩ := A_r
          go_upto_region 22 with fail
          clear z_a q_a z_c q_c z_p q_p z_r q_r
          refine wp_world (fun w14 => At w14 (w3.heap.size) #[.int .u64 a, .int .u64 b] ∧ At w14 (w4.heap.size) #[.int .u64 c, .int .u64 d] ∧ At w14 (w7.heap.size) #[.int .u64 p1, .int .u64 p2] ∧ At w14 (w7.heap.size + 1) #[.int .u64 p3, .int .u64 p4] ∧ Gr w w14) ⟨?_, ?_, ?_, ?_, ?_⟩ ?_
          · repeat (first | exact A_a | refine At.alloc ?_ _)
          · repeat (first | exact A_c | refine At.alloc ?_ _)
          · repeat (first | exact A_p | refine At.alloc ?_ _)
          · repeat (first | exact A_r | refine At.alloc ?_ _)
          · repeat (first | exact hB | refine Gr.alloc ?_ _)
          clear A_a A_c A_p A_r hB
          rintro w14 ⟨A_a, A_c, A_p, A_r, hB⟩
          have M_a := A_a.grown0
          have M_c := A_c.grown0
          have M_p := A_p.grown0
          have M_r := A_r.grown0
          have ⟨z_a, q_a, _⟩ := A_a
          have ⟨z_c, q_c, _⟩ := A_c
          have ⟨z_p, q_p, _⟩ := A_p
          have ⟨z_r, q_r, _⟩ := A_r
          go_wp2_with (first | (go_at_call 24; refine (meets_y _ _ _ _ _ (by assumption)).mono ?_; rintro x w' ⟨rfl, hG⟩; (try replace hG := Gr.of_grow hG); obtain ⟨l, rfl⟩ := hG) | (go_at_call 25; refine (met_y _ _ _ _ _ (by assumption)).mono ?_; rintro x w' ⟨rfl, hG⟩; (try replace hG := Gr.of_grow hG); obtain ⟨l, rfl⟩ := hG))
          go_ret
          exact ⟨rfl, (hB.grow _).below⟩
        · have ⟨z_a, q_a, _⟩ := A_a
          have ⟨z_c, q_c, _⟩ := A_c
          have ⟨z_p, q_p, _⟩ := A_p
          have ⟨z_r, q_r, _⟩ := A_r
          go_wp2_with fail
          refine (u1 _).mono ?_
          rintro x w12 ⟨rfl, hG⟩
          clear z_a q_a z_c q_c z_p q_p z_r q_r
          replace A_a : At w12 (w3.heap.size) #[.int .u64 a, .int .u64 b] := At.gr (by repeat (first | exact A_a | refine At.alloc ?_ _)) hG
          replace A_c : At w12 (w4.heap.size) #[.int .u64 c, .int .u64 d] := At.gr (by repeat (first | exact A_c | refine At.alloc ?_ _)) hG
          replace A_p : At w12 (w7.heap.size) #[.int .u64 p1, .int .u64 p2] := At.gr (by repeat (first | exact A_p | refine At.alloc ?_ _)) hG
          replace A_r : At w12 (w7.heap.size + 1) #[.int .u64 p3, .int .u64 p4] := At.gr (by repeat (first | exact A_r | refine At.alloc ?_ _)) hG
          replace hB : Gr w w12 := Gr.trans (by repeat (first | exact hB | refine Gr.alloc ?_ _)) hG
          clear hG
          have ⟨z_a, q_a, _⟩ := A_a
          have ⟨z_c, q_c, _⟩ := A_c
          have ⟨z_p, q_p, _⟩ := A_p
          have ⟨z_r, q_r, _⟩ := A_r
          go_wp2_with fail
          refine (u2 _).mono ?_
          rintro x w13 ⟨rfl, hG⟩
          clear z_a q_a z_c q_c z_p q_p z_r q_r
          replace A_a : At w13 (w3.heap.size) #[.int .u64 a, .int .u64 b] := At.gr (by repeat (first | exact A_a | refine At.alloc ?_ _)) hG
          replace A_c : At w13 (w4.heap.size) #[.int .u64 c, .int .u64 d] := At.gr (by repeat (first | exact A_c | refine At.alloc ?_ _)) hG
          replace A_p : At w13 (w7.heap.size) #[.int .u64 p1, .int .u64 p2] := At.gr (by repeat (first | exact A_p | refine At.alloc ?_ _)) hG
          replace A_r : At w13 (w7.heap.size + 1) #[.int .u64 p3, .int .u64 p4] := At.gr (by repeat (first | exact A_r | refine At.alloc ?_ _)) hG
          replace hB : Gr w w13 := Gr.trans (by repeat (first | exact hB | refine Gr.alloc ?_ _)) hG
          clear hG
          have ⟨z_a, q_a, _⟩ := A_a
          have ⟨z_c, q_c, _⟩ := A_c
          have ⟨z_p, q_p, _⟩ := A_p
          have ⟨z_r, q_r, _⟩ := A_r
          go_upto_region 22 with fail
          clear z_a q_a z_c q_c z_p q_p z_r q_r
          refine wp_world (fun w14 => At w14 (w3.heap.size) #[.int .u64 a, .int .u64 b] ∧ At w14 (w4.heap.size) #[.int .u64 c, .int .u64 d] ∧ At w14 (w7.heap.size) #[.int .u64 p1, .int .u64 p2] ∧ At w14 (w7.heap.size + 1) #[.int .u64 p3, .int .u64 p4] ∧ Gr w w14) ⟨?_, ?_, ?_, ?_, ?_⟩ ?_
          · repeat (first | exact A_a | refine At.alloc ?_ _)
          · repeat (first | exact A_c | refine At.alloc ?_ _)
          · repeat (first | exact A_p | refine At.alloc ?_ _)
          · repeat (first | exact A_r | refine At.alloc ?_ _)
          · repeat (first | exact hB | refine Gr.alloc ?_ _)
          clear A_a A_c A_p A_r hB
          rintro w14 ⟨A_a, A_c, A_p, A_r, hB⟩
          have M_a := A_a.grown0
          have M_c := A_c.grown0
          have M_p := A_p.grown0
          have M_r := A_r.grown0
          have ⟨z_a, q_a, _⟩ := A_a
          have ⟨z_c, q_c, _⟩ := A_c
          have ⟨z_p, q_p, _⟩ := A_p
          have ⟨z_r, q_r, _⟩ := A_r
          go_wp2_with (first | (go_at_call 24; refine (meets_y _ _ _ _ _ (by assumption)).mono ?_; rintro x w' ⟨rfl, hG⟩; (try replace hG := Gr.of_grow hG); obtain ⟨l, rfl⟩ := hG) | (go_at_call 25; refine (met_y _ _ _ _ _ (by assumption)).mono ?_; rintro x w' ⟨rfl, hG⟩; (try replace hG := Gr.of_grow hG); obtain ⟨l, rfl⟩ := hG))
          go_ret
          exact ⟨rfl, (hB.grow _).below⟩
end Go.Proofs.Ytdlfmifkjmajpaa
