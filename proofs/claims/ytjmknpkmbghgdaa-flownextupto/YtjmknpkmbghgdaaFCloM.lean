/-
  Stage 8, flow: what is come to is closed. No Go in sight; and an append of what came in.
-/
import Derived.Test.YtjmknpkmbghgdaaFRowM
namespace Go.Proofs.Ytjmknpkmbghgdaa
namespace F
open Go.RowKit
open T

theorem clo1 {L : List Ins} {E : List Int} {e : Int} (h : e ∈ E) (ht : thB L.length e = true) : rchB L E (-1) e.toNat = true := by
  obtain ⟨q, rfl, hq⟩ := thB_elim ht
  exact rchB_iff.2 (Rch.base (by simpa using h) (by simpa using hq) (by omega))
theorem clo2 {L : List Ins} {E : List Int} {p q : Nat} (h : rchB L E (-1) p = true) (hf : folB L p q = true) : rchB L E (-1) q = true :=
  rchB_iff.2 (Rch.step (rchB_iff.1 h) hf (by omega))
theorem rch_mono {L : List Ins} {E E' : List Int} {out : Int} (hE : ∀ x ∈ E, x ∈ E') {q : Nat} (h : Rch L E out q) : Rch L E' out q := by
  induction h with
  | base h1 h2 h3 => exact Rch.base (hE _ h1) h2 h3
  | step h1 h2 h3 ih => exact Rch.step ih h2 h3
theorem clo3 {L : List Ins} {E : List Int} {x : Int} {q : Nat} (h : rchB L E (-1) q = true) : rchB L (E ++ [x]) (-1) q = true :=
  rchB_iff.2 (rch_mono (fun y hy => by simp [hy]) (rchB_iff.1 h))
theorem rch_why {L : List Ins} {E : List Int} {out : Int} {q : Nat} (h : Rch L E out q) : (q : Int) ∈ E ∨ ∃ p, p ≠ q ∧ Rch L E out p ∧ folB L p q = true := by
  induction h with
  | base h1 h2 h3 => exact .inl h1
  | @step p q h1 h2 h3 ih =>
    by_cases e : p = q
    · subst e; exact ih
    · exact .inr ⟨p, e, h1, h2⟩
/-- Why each is come to, from so many. -/
def wC (L : List Ins) (E : List Int) (r : Nat → Bool) (p q : Nat) : Bool := decide ((q : Int) ∈ E) || (List.range p).any fun p' => r p' && folB L p' q && decide (q ≠ p')
def wD (L : List Ins) (E : List Int) (r : Nat → Bool) (p : Nat) (N : List Int) (q : Nat) : Bool := wC L E r p q || (r p && decide ((q : Int) ∈ N) && decide (q ≠ p))
theorem clo4 {L : List Ins} {E : List Int} {q : Nat} (h : rchB L E (-1) q = true) : wC L E (rchB L E (-1)) L.length q = true := by
  unfold wC
  rcases rch_why (rchB_iff.1 h) with r | ⟨p, h1, h2, h3⟩
  · simp [r]
  · rw [Bool.or_eq_true]
    right
    rw [List.any_eq_true]
    refine ⟨p, List.mem_range.2 (folB_lt' h3), ?_⟩
    rw [rchB_iff.2 h2, h3]
    simp
    omega
theorem wD_all {L : List Ins} {E : List Int} {r : Nat → Bool} {p : Nat} (hp : p < L.length) (q : Nat) : wC L E r (p + 1) q = wD L E r p (nxtI L p) q := by
  have e : decide ((q : Int) ∈ nxtI L p) = folB L p q := by
    rw [Bool.eq_iff_iff, decide_eq_true_iff, mem_nxt hp]
    constructor
    · rintro ⟨q', h1, h2⟩
      have : q = q' := by omega
      rw [this]; exact h2
    · intro h; exact ⟨q, rfl, h⟩
  unfold wD
  rw [e]
  unfold wC
  rw [List.range_succ, List.any_append]
  simp [Bool.or_assoc]
theorem wD_zero {L : List Ins} {E : List Int} {r : Nat → Bool} {p : Nat} (q : Nat) : wD L E r p [] q = wC L E r p q := by simp [wD]
theorem wD_off {L : List Ins} {E : List Int} {r : Nat → Bool} {p : Nat} (h : r p = false) (N M : List Int) (q : Nat) : wD L E r p N q = wD L E r p M q := by simp [wD, h]
theorem wD_self {L : List Ins} {E : List Int} {r : Nat → Bool} {p : Nat} (N : List Int) (q : Nat) : wD L E r p (N ++ [(p : Int)]) q = wD L E r p N q := by
  unfold wD
  by_cases e : q = p
  · subst e; simp
  · have : ¬ (q : Int) = p := by omega
    simp [this]
theorem wD_put {L : List Ins} {E : List Int} {r : Nat → Bool} {p y : Nat} (h : r p = true) (hy : y ≠ p) (N : List Int) (q : Nat) : wD L E r p (N ++ [(y : Int)]) q = if q = y then true else wD L E r p N q := by
  unfold wD
  by_cases e : q = y
  · subst e; simp [h, hy]
  · have : ¬ (q : Int) = y := by omega
    simp [this, e]
theorem take_snoc (N : List Int) (k : Nat) (hk : k < N.length) : N.take (k + 1) = N.take k ++ [N[k]] := by
  rw [List.take_add_one, List.getElem?_eq_getElem hk, Option.toList_some]
theorem run_append_nilsrc (w : World) (ty : TypeId) (base : Nat) (v : Value) (L : List Int) (c : Nat) (hL : IOwn w base v L) :
    (Builtin.append_ #[23, 23] ty #[v, .slice none 0 c]).run Try.prog w = .ok v w := by
  obtain ⟨i0, hi, hz0, hz1, hz2⟩ := info_parts' (t := 3) (z := .int .i64 0) (s := 1) (b := 8) (by kernel_rfl)
  rcases hL.2 with ⟨rfl, h0⟩ | ⟨g, cap, cur, rfl, hbg, hg, hnc, hcm, hcs, htake⟩
  · simp [Builtin.append_, run_underlying Try.underlying23, sizeOf, typeInfo, hi, Builtin.lenOf, Builtin.firstCells]
  · have := run_append_room_src (P := Try.prog) w 23 23 ty 3 i0 Try.underlying23 hi g 0 L.length cap (.slice none 0 c) 0 [] (Src.ofNil w Try.underlying23 c) (by omega) (fun j hj => by simp at hj) (fun j hj => by simp at hj)
    simpa [World.setCells] using this
theorem wpList_append_came {ops : Array Oper} {rest : List Oper} {o : Oper} {a : Act} {Q : Exit → Act → World → Prop} {w : World} (hgd : o.guard = none) (s x : Operand)
    (ho : o.op = .call { callee := .builtin .append, args := #[s, x], argTypes := #[23, 23] })
    (base : Nat) (v : Value) (L M : List Int) (hs : a.eval s = v) (hL : IOwn w base v L)
    (ax : Option Addr) (c : Nat) (hx : a.eval x = .slice ax M.length c) (B : Nat) (hM : NIn B w ax M) (hlen : L.length + M.length ≤ 8000000) (hbase : base ≤ w.heap.size)
    (h : ∀ v' w', IOwn w' base v' (L ++ M) → w.grownBy w' v.ownBlock → (v'.ownBlock = v.ownBlock ∨ v'.ownBlock = some w.heap.size) → wpList Try.prog ops Q rest (a.put o.dst v') w') :
    wpList Try.prog ops Q (o :: rest) a w := by
  cases ax with
  | none =>
    have hM0 : M = [] := by
      cases M with
      | nil => rfl
      | cons k M =>
        obtain ⟨b, off, e, _⟩ := hM 0 (by simp)
        cases e
    subst hM0
    refine wpList_plain hgd fun K hK => ?_
    have hr := run_append_nilsrc w o.type base v L c hL
    unfold Oper.wp execOp
    simp only [ho, resolve, invoke, builtin, Sem.run_bind, Sem.run_pure, Result.andThen_ok, List.map_toArray, List.map_cons, List.map_nil, hs, hx, List.length_nil, hr]
    exact hK _ _ (h v w (by simpa using hL) ⟨rfl, rfl, rfl, Nat.le_refl _, fun _ _ _ => rfl⟩ (.inl rfl))
  | some ad => exact wpList_append_nums hgd s x ho base v L M hs hL ad c hx B hM hlen hbase h
end F
end Go.Proofs.Ytjmknpkmbghgdaa
