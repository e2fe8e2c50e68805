import Derived.Test.YtcljibdikhpnlaaDoorP35
import Derived.Deep.AppendSrc
/-
  Stage 4, image: whole lists, copied into new memory.
-/
namespace Go.Proofs.YtcljibdikhpnlaaDoor
open Go.RowKit

/-- So many things as a row may have. -/
def Fit (n : Nat) : Prop := n * 64 ≤ 140737488355328
def FitB (k n : Nat) : Prop := n * k ≤ 140737488355328
theorem news_fin {α : Type} {k : Nat} {vals : α → List Value} (hv : ∀ x, (vals x).length = k) (hk : 0 < k) {w : World} {B : Nat} {a : Addr} {M : List α} (h : FIn k vals B w (some a) M) : ∀ j u, (M.flatMap vals)[j]? = some u → w.cell? (a.add j) = some u := by
  intro j u hj
  have hlen : (M.flatMap vals).length = M.length * k := by
    clear hj h
    induction M with
    | nil => simp
    | cons x M ih => rw [List.flatMap_cons, List.length_append, ih, hv, List.length_cons, Nat.succ_mul]; omega
  have hjl : j < M.length * k := by
    have := (List.getElem?_eq_some_iff.1 hj).1
    rwa [hlen] at this
  have hq : j / k < M.length := Nat.div_lt_of_lt_mul (by rw [Nat.mul_comm]; exact hjl)
  have hm : j % k < k := Nat.mod_lt _ hk
  obtain ⟨b, off, ha, _, _, hc⟩ := h (j / k) hq
  cases ha
  have ea : (⟨b, off, none⟩ : Addr).add j = ⟨b, off + j, none⟩ := by by_cases h0 : j = 0 <;> simp [Addr.add, h0]
  have hg := flatMap_get hv M (j / k) (j % k) hq hm
  have ej : j / k * k + j % k = j := by rw [Nat.mul_comm]; exact Nat.div_add_mod j k
  rw [ej, hj] at hg
  have := hc (j % k) hm
  rw [Nat.add_assoc, ej] at this
  rw [ea, this, ← hg]
theorem flatMap_len {α : Type} {k : Nat} {vals : α → List Value} (hv : ∀ x, (vals x).length = k) (M : List α) : (M.flatMap vals).length = M.length * k := by
  induction M with
  | nil => simp
  | cons x M ih => rw [List.flatMap_cons, List.length_append, ih, hv, List.length_cons, Nat.succ_mul]; omega
/-- A whole list, appended to none. -/
theorem wpList_append_all {α : Type} {k : Nat} {vals : α → List Value} (hv : ∀ x, (vals x).length = k) (hk : 0 < k) (h1c : ∀ x, ∀ u ∈ vals x, u.oneCell' = true)
    {ops : Array Oper} {rest : List Oper} {o : Oper} {a : Act} {Q : Exit → Act → World → Prop} {w : World} (hgd : o.guard = none) (s x : Operand) (t e : TypeId) (z : Value) (bytes : Nat)
    (ho : o.op = .call { callee := .builtin .append, args := #[s, x], argTypes := #[t, t] }) (ht : Tryd.prog.underlying t = some (.slice e))
    (hi : (Tryd.prog.info? e).map (fun i => (i.zero, i.size, i.bytes)) = some (some z, k, bytes)) (hz : z.cells.size = k) (hby : 0 < bytes)
    (M : List α) (hs : a.eval s = .slice none 0 0) (ax : Option Addr) (c : Nat) (hx : a.eval x = .slice ax M.length c) (B : Nat) (hM : FIn k vals B w ax M) (hlen : FitB bytes M.length)
    (h : ∀ v' w', w'.ownsRow w.heap.size e k v' M.length (M.flatMap vals) → w.grownBy w' none → wpList Tryd.prog ops Q rest (a.put o.dst v') w') :
    wpList Tryd.prog ops Q (o :: rest) a w := by
  obtain ⟨i0, hi0, hz0, hz1, hz2⟩ := info_parts hi
  cases ax with
  | none =>
    have hM0 : M = [] := by
      cases M with
      | nil => rfl
      | cons y M =>
        obtain ⟨b, off, e, _⟩ := hM 0 (by simp)
        cases e
    subst hM0
    refine wpList_plain hgd fun K hK => ?_
    have hr : (Builtin.append_ #[t, t] o.type #[.slice none 0 0, .slice none 0 c]).run Tryd.prog w = .ok (.slice none 0 0) w := by
      simp [Builtin.append_, run_underlying ht, sizeOf, typeInfo, hi0, Builtin.lenOf, Builtin.firstCells]
    unfold Oper.wp execOp
    simp only [ho, resolve, invoke, builtin, Sem.run_bind, Sem.run_pure, Result.andThen_ok, List.map_toArray, List.map_cons, List.map_nil, hs, hx, List.length_nil, hr]
    exact hK _ _ (h (.slice none 0 0) w ⟨by simp, .inl ⟨rfl, rfl⟩⟩ ⟨rfl, rfl, rfl, Nat.le_refl _, fun _ _ _ => rfl⟩)
  | some ad =>
    unfold FitB at hlen
    have hb1 := Nat.le_mul_of_pos_right M.length hby
    have hb : (0 + M.length) * bytes ≤ 140737488355328 := by
      rw [Nat.zero_add]
      exact hlen
    refine wpList_append_own_at _ hgd s x t ho w.heap.size e i0 z k bytes ht hi0 hz0 hz1 hz2 hz hk
      (.slice none 0 0) 0 [] hs ⟨by simp, .inl ⟨rfl, rfl⟩⟩ ad M.length c (M.flatMap vals) hx (flatMap_len hv M) (news_fin hv hk hM) (fun u hu => by
        obtain ⟨y, _, hy⟩ := List.mem_flatMap.1 hu
        exact h1c y u hy) (by unfold maxLen; omega) hb (Nat.le_refl _) ?_
    intro v' w' k1 k2 _ _
    refine h v' w' ?_ k2
    simpa using k1
theorem slot_one (x : PSlot) : ∀ u ∈ x.vals, u.oneCell' = true := by
  intro u hu; simp [PSlot.vals, PTyp.vals] at hu; rcases hu with h | h | h | h | h | h | h | h <;> rw [h] <;> rfl
theorem root_one (x : PRoot) : ∀ u ∈ x.vals, u.oneCell' = true := by
  intro u hu; simp [PRoot.vals] at hu; rcases hu with h | h | h | h | h | h <;> rw [h] <;> rfl
theorem typ_one (x : PTyp) : ∀ u ∈ x.vals, u.oneCell' = true := by
  intro u hu; simp [PTyp.vals] at hu; rcases hu with h | h | h | h | h | h | h <;> rw [h] <;> rfl
theorem lin_fin {B : Nat} {w : World} {a : Option Addr} {L : List Ins} (h : LIn B w a L) : FIn 5 Ins.vals B w a L := fun i hi => by
  obtain ⟨b, off, ha, h1, h2, c0, c1, c2, c3, c4⟩ := h i hi
  refine ⟨b, off, ha, h1, h2, fun j hj => ?_⟩
  have hr : j = 0 ∨ j = 1 ∨ j = 2 ∨ j = 3 ∨ j = 4 := by omega
  rcases hr with rfl | rfl | rfl | rfl | rfl
  · exact c0
  · exact c1
  · exact c2
  · exact c3
  · exact c4
theorem ins_len (x : Ins) : x.vals.length = 5 := rfl
set_option maxHeartbeats 1000000 in
theorem freshSlot_any (L : List PSlot) (a : Option Addr) (c : Nat) (w : World) (h : FIn 8 PSlot.vals w.heap.size w a L) (hl : FitB 64 L.length) :
    Calls Tryd.prog 33 #[.slice a L.length c] w fun x w' => ∃ v, x = .returned v ∧ w'.ownsRow w.heap.size 69 8 v L.length (L.flatMap PSlot.vals) ∧ w.grownBy w' none := by
  replace h := Hid.mk h
  replace hl := Hid.mk hl
  go_enter Tryd.func33, Tryd.ntmps33
  go_wp2_with (at_builtin; refine wpList_append_all slot_len (by decide) slot_one rfl (.const (.slice none 0 0)) (.tmp 3) 45 69 _ 64 rfl Tryd.underlying45 infoSlot rfl (by decide) L rfl a c rfl _ h.out hl.out ?_)
  intro v' w' hO hg
  replace hO := Hid.mk hO
  replace hg := Hid.mk hg
  go_wp2_with fail
  go_ret
  exact ⟨_, rfl, hO.out, hg.out⟩
set_option maxHeartbeats 1000000 in
theorem freshRoot_any (L : List PRoot) (a : Option Addr) (c : Nat) (w : World) (h : FIn 6 PRoot.vals w.heap.size w a L) (hl : FitB 48 L.length) :
    Calls Tryd.prog 34 #[.slice a L.length c] w fun x w' => ∃ v, x = .returned v ∧ w'.ownsRow w.heap.size 71 6 v L.length (L.flatMap PRoot.vals) ∧ w.grownBy w' none := by
  replace h := Hid.mk h
  replace hl := Hid.mk hl
  go_enter Tryd.func34, Tryd.ntmps34
  go_wp2_with (at_builtin; refine wpList_append_all root_len (by decide) root_one rfl (.const (.slice none 0 0)) (.tmp 3) 49 71 _ 48 rfl Tryd.underlying49 infoRoot rfl (by decide) L rfl a c rfl _ h.out hl.out ?_)
  intro v' w' hO hg
  replace hO := Hid.mk hO
  replace hg := Hid.mk hg
  go_wp2_with fail
  go_ret
  exact ⟨_, rfl, hO.out, hg.out⟩
set_option maxHeartbeats 1000000 in
theorem freshInst_any (L : List Ins) (a : Option Addr) (c : Nat) (w : World) (h : FIn 5 Ins.vals w.heap.size w a L) (hl : FitB 40 L.length) :
    Calls Tryd.prog 35 #[.slice a L.length c] w fun x w' => ∃ v, x = .returned v ∧ w'.ownsRow w.heap.size 74 5 v L.length (L.flatMap Ins.vals) ∧ w.grownBy w' none := by
  replace h := Hid.mk h
  replace hl := Hid.mk hl
  go_enter Tryd.func35, Tryd.ntmps35
  go_wp2_with (at_builtin; refine wpList_append_all ins_len (by decide) vals_one rfl (.const (.slice none 0 0)) (.tmp 3) 50 74 _ 40 rfl Tryd.underlying50 infoInst rfl (by decide) L rfl a c rfl _ h.out hl.out ?_)
  intro v' w' hO hg
  replace hO := Hid.mk hO
  replace hg := Hid.mk hg
  go_wp2_with fail
  go_ret
  exact ⟨_, rfl, hO.out, hg.out⟩
set_option maxHeartbeats 1000000 in
theorem freshType_any (L : List PTyp) (a : Option Addr) (c : Nat) (w : World) (h : FIn 7 PTyp.vals w.heap.size w a L) (hl : FitB 56 L.length) :
    Calls Tryd.prog 36 #[.slice a L.length c] w fun x w' => ∃ v, x = .returned v ∧ w'.ownsRow w.heap.size 67 7 v L.length (L.flatMap PTyp.vals) ∧ w.grownBy w' none := by
  replace h := Hid.mk h
  replace hl := Hid.mk hl
  go_enter Tryd.func36, Tryd.ntmps36
  go_wp2_with (at_builtin; refine wpList_append_all typ_len (by decide) typ_one rfl (.const (.slice none 0 0)) (.tmp 3) 53 67 _ 56 rfl Tryd.underlying53 infoType rfl (by decide) L rfl a c rfl _ h.out hl.out ?_)
  intro v' w' hO hg
  replace hO := Hid.mk hO
  replace hg := Hid.mk hg
  go_wp2_with fail
  go_ret
  exact ⟨_, rfl, hO.out, hg.out⟩
end Go.Proofs.YtcljibdikhpnlaaDoor
