import Derived.Test.YtmmakknhaacplaaGreatDoorMFrs
import Derived.Test.YtmmakknhaacplaaGreatDoorP19
/-
  Stage 4, image: the document's Size: appends of whole lists, and how long the bytes of a right program are.
-/
namespace Go.Proofs.YtmmakknhaacplaaGreatDoor
open Go.RowKit

/-- A whole list, appended to an own row. -/
theorem wpList_append_more {α : Type} {k : Nat} {vals : α → List Value} (hv : ∀ x, (vals x).length = k) (hk : 0 < k) (h1c : ∀ x, ∀ u ∈ vals x, u.oneCell' = true)
    {ops : Array Oper} {rest : List Oper} {o : Oper} {a : Act} {Q : Exit → Act → World → Prop} {w : World} (hgd : o.guard = none) (s x : Operand) (t e : TypeId) (z : Value) (bytes : Nat)
    (ho : o.op = .call { callee := .builtin .append, args := #[s, x], argTypes := #[t, t] }) (ht : Tryz.prog.underlying t = some (.slice e))
    (hi : (Tryz.prog.info? e).map (fun i => (i.zero, i.size, i.bytes)) = some (some z, k, bytes)) (hz : z.cells.size = k) (hby : bytes ≤ 64)
    (base : Nat) (hbase : base ≤ w.heap.size) (L M : List α) (av : Option Addr) (cv : Nat) (hs : a.eval s = .slice av L.length cv) (hown : w.ownsRow base e k (.slice av L.length cv) L.length (L.flatMap vals))
    (ax : Option Addr) (c : Nat) (hx : a.eval x = .slice ax M.length c) (B : Nat) (hM : FIn k vals B w ax M) (hlen : Fit (L.length + M.length))
    (h : ∀ v' w', w'.ownsRow base e k v' (L ++ M).length ((L ++ M).flatMap vals) → w.grownBy w' (Value.slice av L.length cv).ownBlock → wpList Tryz.prog ops Q rest (a.put o.dst v') w') :
    wpList Tryz.prog ops Q (o :: rest) a w := by
  obtain ⟨i0, hi0, hz0, hz1, hz2⟩ := info_parts hi
  cases ax with
  | none =>
    have hM0 : M = [] := by
      cases M with
      | nil => rfl
      | cons y M =>
        obtain ⟨b, off, e, _⟩ := hM 0 (by simp)
        cases e
    subst hM0
    refine wpList_plain hgd fun K hK => ?_
    have hcap : ¬ cv < L.length := by
      rcases hown.2 with ⟨q1, q2⟩ | ⟨g, cap, cur, q1, _, _, q2, _⟩
      · rw [q2]; omega
      · injection q1 with _ _ q3
        omega
    have hr : (Builtin.append_ #[t, t] o.type #[.slice av L.length cv, .slice none 0 c]).run Tryz.prog w = .ok (.slice av L.length cv) w := by
      cases av <;> simp [hcap, Builtin.append_, run_underlying ht, sizeOf, typeInfo, hi0, Builtin.lenOf, Builtin.firstCells, storeCells]
    unfold Oper.wp execOp
    simp only [ho, resolve, invoke, builtin, Sem.run_bind, Sem.run_pure, Result.andThen_ok, List.map_toArray, List.map_cons, List.map_nil, hs, hx, List.length_nil, hr]
    exact hK _ _ (h (.slice av L.length cv) w (by rw [List.append_nil]; exact hown) ⟨rfl, rfl, rfl, Nat.le_refl _, fun _ _ _ => rfl⟩)
  | some ad =>
    unfold Fit at hlen
    have hb : (L.length + M.length) * bytes ≤ 140737488355328 := Nat.le_trans (Nat.mul_le_mul_left _ hby) hlen
    refine wpList_append_own_at _ hgd s x t ho base e i0 z k bytes ht hi0 hz0 hz1 hz2 hz hk
      (.slice av L.length cv) L.length (L.flatMap vals) hs hown ad M.length c (M.flatMap vals) hx (flatMap_len hv M) (news_fin hv hk hM) (fun u hu => by
        obtain ⟨y, _, hy⟩ := List.mem_flatMap.1 hu
        exact h1c y u hy) (by unfold maxLen; omega) hb hbase ?_
    intro v' w' k1 k2 _ _
    refine h v' w' ?_ k2
    rw [List.length_append, List.flatMap_append]
    exact k1
theorem typB_cap {t : PTyp} (h : t.cap = true) : (typB t).length = 35 := by
  unfold typB
  rw [if_pos h]
  simp [putB_length]
theorem slotsB_len : ∀ L : List PSlot, slotsR L = true → (slotsB L).length = 43 * L.length
  | [], _ => rfl
  | k :: L, h => by
    unfold slotsR at h
    rw [Bool.and_eq_true] at h
    have hc : k.t.cap = true := by
      have := h.1
      unfold PSlot.right at this
      simp only [Bool.and_eq_true] at this
      exact this.1.1
    rw [slotsB, List.length_append, slotsB_len L h.2, List.length_cons]
    unfold slotB
    rw [List.length_append, typB_cap hc, putB_length]
    simp only [List.length_cons, List.length_nil]
    omega
theorem rootsB_len : ∀ L : List PRoot, (rootsB L).length = 27 * L.length
  | [] => rfl
  | k :: L => by
    rw [rootsB, List.length_append, rootsB_len L, List.length_cons]
    unfold rootB
    simp only [List.length_append, putB_length, List.length_cons, List.length_nil]
    omega
theorem encF_len (c g : Int) : ∀ (L : List Ins) (j : Nat) (B : List UInt8), codeF c g L = 0 → (encF L j B).1.length = B.length + 8 * L.length
  | [], _, _, _ => by simp [encF]
  | k :: L, j, B, h => by
    unfold codeF at h
    by_cases hr : k.right = 0
    · rw [if_pos hr] at h
      by_cases ht : tgtB k.op k.m c g = true
      · rw [if_pos ht] at h
        rw [encF, if_pos hr, encF_len c g L _ _ h, List.length_append, bytesOf_length, List.length_cons]
        omega
      · rw [if_neg ht] at h
        cases h
    · rw [if_neg hr] at h
      exact absurd h hr
theorem regsR_slots : ∀ (L : List PReg) (f : Int), regsR L f = 0 → ∀ r ∈ L, slotsR r.slots = true
  | [], _, _, _, h => absurd h (by simp)
  | x :: L, f, h, r, hr => by
    unfold regsR at h
    by_cases h1 : (placeB x.b x.n f && contentB x.n x.data x.slots.length) = true
    · rw [if_pos h1] at h
      by_cases h2 : slotsR x.slots = true
      · rw [if_pos h2] at h
        rcases List.mem_cons.1 hr with rfl | hr
        · exact h2
        · exact regsR_slots L _ h r hr
      · rw [if_neg h2] at h; cases h
    · rw [if_neg h1] at h; cases h
theorem compsR_code (g : Int) : ∀ (L : List PComp), compsR g L = 0 → ∀ c ∈ L, codeF c.code.length g c.code = 0
  | [], _, _, h => absurd h (by simp)
  | x :: L, h, c, hc => by
    unfold compsR at h
    by_cases h1 : rootsR x.roots 7 = true
    · rw [if_pos h1] at h
      by_cases h2 : codeR x.code g = 0
      · rw [if_pos h2] at h
        rcases List.mem_cons.1 hc with rfl | hc
        · unfold codeR at h2
          split at h2
          · cases h2
          · exact h2
        · exact compsR_code g L h c hc
      · rw [if_neg h2] at h; exact absurd h h2
    · rw [if_neg h1] at h; cases h
theorem regB_len {r : PReg} (h : slotsR r.slots = true) : ((regB r).length : Int) = 10 + 43 * (r.slots.length : Int) + (if r.slots.length = 0 then 2 + (r.data.length : Int) else 0) := by
  unfold regB dataBy
  simp only [List.length_append, putB_length, slotsB_len _ h, List.length_cons, List.length_nil]
  split
  · simp only [List.length_append, putB_length, List.length_cons, List.length_nil]; omega
  · simp only [List.length_nil]; omega
theorem compB_len {c : PComp} {g : Int} (h : codeF c.code.length g c.code = 0) : ((compB c).length : Int) = 3 + 27 * (c.roots.length : Int) + 8 * (c.code.length : Int) := by
  unfold compB codeBy
  simp only [List.length_append, putB_length, rootsB_len, encF_len _ g _ 0 [] h, List.length_cons, List.length_nil]
  omega
theorem gateB_len (g : PGate) : ((gateB g).length : Int) = 5 + ((typsB (g.args ++ g.res)).length : Int) := by
  have e : ∀ A B : List PTyp, typsB (A ++ B) = typsB A ++ typsB B := fun A B => by
    induction A with
    | nil => rfl
    | cons t A ih => rw [List.cons_append, typsB, typsB, ih, List.append_assoc]
  unfold gateB kindsB
  rw [e]
  simp only [List.length_append, putB_length, List.length_cons, List.length_nil]
  omega
end Go.Proofs.YtmmakknhaacplaaGreatDoor
