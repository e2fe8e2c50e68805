import Derived.Test.YtdmkedpnkejpbaaDoorP34
import Derived.Deep.AppendSrc
/-
  Stage 3, instr: a byte of a row that is another one. No Go in sight.
-/
namespace Go.Proofs.YtdmkedpnkejpbaaDoor
open Go.RowKit

theorem dec_prefix (P : List Ins) (h : AllR P) (ho : OpsIn P) (n : Nat) (S : List UInt8) (j : Nat) (M : List Ins) : decF (n + P.length) (code P ++ S) j M = decF n S (j + 8 * P.length) (M ++ P) := by
  induction P generalizing j M with
  | nil => simp [code]
  | cons k P ih =>
    have hk := h k (by simp)
    have hok := ho k (by simp)
    rw [code_cons, List.length_cons, ← Nat.add_assoc, decF, if_neg (by simp [bytesOf, bytesI]), List.append_assoc, if_pos (readE_code hok.1 hok.2 hk _), drop_bytes, ins_bytes hok.1 hok.2 hk,
      ih (fun x hx => h x (by simp [hx])) (fun x hx => ho x (by simp [hx])), List.append_assoc]
    have e : j + 8 + 8 * P.length = j + 8 * (P.length + 1) := by omega
    rw [e]
    rfl
theorem turned (P Q : List Ins) (k : Ins) (X : List UInt8) (hA : AllR (P ++ k :: Q)) (hO : OpsIn (P ++ k :: Q)) (hX : X.length = 8) (hne : X ≠ bytesOf k) :
    (decA (code P ++ (X ++ code Q))).1 ≠ P ++ k :: Q ∧ ((decA (code P ++ (X ++ code Q))).2.1 = 0 ∨ (decA (code P ++ (X ++ code Q))).2.2 = ((8 * P.length : Nat) : Int)) := by
  have hAP : AllR P := fun x hx => hA x (by simp [hx])
  have hOP : OpsIn P := fun x hx => hO x (by simp [hx])
  have hAQ : AllR Q := fun x hx => hA x (by simp [hx])
  have hOQ : OpsIn Q := fun x hx => hO x (by simp [hx])
  have hl : (code P ++ (X ++ code Q)).length + 1 = (7 * P.length + 8 + (code Q).length + 1) + P.length := by
    rw [List.length_append, List.length_append, code_length, hX]; omega
  have hne2 : X ++ code Q ≠ [] := fun h => by
    have := congrArg List.length h
    simp [hX] at this
  unfold decA
  rw [hl, dec_prefix P hAP hOP, decF, if_neg hne2]
  by_cases he : readE (X ++ code Q) = 0
  · rw [if_pos he]
    have hd : (X ++ code Q).drop 8 = code Q := by rw [List.drop_append, ← hX]; simp
    rw [hd, dec_code Q hAQ hOQ _ _ _ (by rw [code_length]; omega)]
    refine ⟨fun h => hne ?_, .inl rfl⟩
    have h2 : insOf (X ++ code Q) = k := by
      have := congrArg (fun l => l[P.length]?) h
      simpa using this
    have h3 := bytes_ins (X ++ code Q) (by rw [List.length_append, hX]; omega)
    rw [h2, List.take_append_of_le_length (by omega), List.take_of_length_le (by omega)] at h3
    exact h3.symm
  · rw [if_neg he]
    refine ⟨fun h => ?_, .inr (by simp)⟩
    have := congrArg List.length h
    simp at this
theorem set_code (L : List Ins) (hA : AllR L) (hO : OpsIn L) (kk : Nat) (x : UInt8) (hk : kk < (code L).length) (hx : (code L)[kk] ≠ x) :
    (decA ((code L).take kk ++ [x] ++ (code L).drop (kk + 1))).1 ≠ L ∧ ((decA ((code L).take kk ++ [x] ++ (code L).drop (kk + 1))).2.1 = 0 ∨ (decA ((code L).take kk ++ [x] ++ (code L).drop (kk + 1))).2.2 = ((8 * (kk / 8) : Nat) : Int)) := by
  have hcl := code_length L
  have hq : kk / 8 < L.length := by omega
  have hsplit : L = L.take (kk / 8) ++ L[kk / 8] :: L.drop (kk / 8 + 1) := by
    rw [← List.drop_eq_getElem_cons hq, List.take_append_drop]
  have hP : (L.take (kk / 8)).length = kk / 8 := by rw [List.length_take]; omega
  generalize L.take (kk / 8) = P at hsplit hP
  generalize L[kk / 8] = k at hsplit
  generalize L.drop (kk / 8 + 1) = Q at hsplit
  subst hsplit
  have hc : code (P ++ k :: Q) = code P ++ (bytesOf k ++ code Q) := by rw [code_app, code_cons]
  have hPl : (code P).length = 8 * (kk / 8) := by rw [code_length, hP]
  have hB := bytesOf_length k
  obtain ⟨r, hr⟩ : ∃ r, r = kk % 8 := ⟨_, rfl⟩
  have hr8 : r < 8 := by omega
  have hkr : kk = (code P).length + r := by omega
  have e1 : (code (P ++ k :: Q)).take kk = code P ++ (bytesOf k).take r := by
    rw [hc, hkr, List.take_length_add_append, List.take_append_of_le_length (by omega)]
  have e2 : (code (P ++ k :: Q)).drop (kk + 1) = (bytesOf k).drop (r + 1) ++ code Q := by
    have : kk + 1 = (code P).length + (r + 1) := by omega
    rw [hc, this, List.drop_length_add_append, List.drop_append_of_le_length (by omega)]
  have e3 : (code (P ++ k :: Q))[kk]? = (bytesOf k)[r]? := by
    rw [hc, hkr, List.getElem?_append_right (by omega), List.getElem?_append_left (by omega)]
    congr 1
    omega
  rw [e1, e2]
  have e4 : code P ++ (bytesOf k).take r ++ [x] ++ ((bytesOf k).drop (r + 1) ++ code Q) = code P ++ (((bytesOf k).take r ++ [x] ++ (bytesOf k).drop (r + 1)) ++ code Q) := by simp
  rw [e4]
  have hX : ((bytesOf k).take r ++ [x] ++ (bytesOf k).drop (r + 1)).length = 8 := by
    simp only [List.length_append, List.length_take, List.length_drop, List.length_cons, List.length_nil, hB]; omega
  have hne : (bytesOf k).take r ++ [x] ++ (bytesOf k).drop (r + 1) ≠ bytesOf k := fun h => by
    have h1 := congrArg (fun l => l[r]?) h
    have h2 : ((bytesOf k).take r ++ [x] ++ (bytesOf k).drop (r + 1))[r]? = some x := by
      rw [List.append_assoc, List.getElem?_append_right (by rw [List.length_take]; omega)]
      have : r - ((bytesOf k).take r).length = 0 := by rw [List.length_take]; omega
      rw [this]; rfl
    simp only [h2] at h1
    rw [← e3, List.getElem?_eq_getElem hk] at h1
    exact hx (Option.some.inj h1).symm
  have := turned P Q k _ hA hO hX hne
  rw [hP] at this
  exact this
end Go.Proofs.YtdmkedpnkejpbaaDoor


/-
  Stage 3, instr: a row of instructions appended to one that the call owns; rows behind one another.
-/
namespace Go.Proofs.YtdmkedpnkejpbaaDoor
open Go.RowKit

theorem news_flat {w : World} {B : Nat} {a : Addr} {M : List Ins} (h : LIn B w (some a) M) : ∀ j u, (flat M)[j]? = some u → w.cell? (a.add j) = some u := by
  intro j u hj
  have hjl : j < M.length * 5 := by
    have := (List.getElem?_eq_some_iff.1 hj).1
    rwa [flat_length] at this
  obtain ⟨b, off, ha, _, _, c0, c1, c2, c3, c4⟩ := h (j / 5) (by omega)
  cases ha
  have ea : (⟨b, off, none⟩ : Addr).add j = ⟨b, off + j, none⟩ := by by_cases h0 : j = 0 <;> simp [Addr.add, h0]
  have hg := flat_get M (j / 5) (j % 5) (by omega) (by omega)
  have ej : j / 5 * 5 + j % 5 = j := by omega
  rw [ej, hj] at hg
  have e5 : off + j = off + j / 5 * 5 + j % 5 := by omega
  rw [ea, e5, hg]
  have hr : j % 5 = 0 ∨ j % 5 = 1 ∨ j % 5 = 2 ∨ j % 5 = 3 ∨ j % 5 = 4 := by omega
  rcases hr with h | h | h | h | h <;> rw [h]
  · exact c0
  · exact c1
  · exact c2
  · exact c3
  · exact c4
theorem flat_one (M : List Ins) : ∀ u ∈ flat M, u.oneCell' = true := by
  intro u hu
  obtain ⟨k, _, hk⟩ := List.mem_flatMap.1 hu
  exact vals_one k u hk
theorem run_append_nilsrc (w : World) (ty : TypeId) (base : Nat) (v : Value) (L : List Ins) (c : Nat) (hL : LOwn w base v L) :
    (Builtin.append_ #[55, 55] ty #[v, .slice none 0 c]).run Tryd.prog w = .ok v w := by
  obtain ⟨i0, hi, hz0, hz1, hz2⟩ := info_parts infoInst
  rcases hL.2 with ⟨rfl, h0⟩ | ⟨g, cap, cur, rfl, hbg, hg, hnc, hcm, hcs, htake⟩
  · simp [Builtin.append_, run_underlying Tryd.underlying55, sizeOf, typeInfo, hi, Builtin.lenOf, Builtin.firstCells]
  · have := run_append_room_src (P := Tryd.prog) w 55 55 ty 74 i0 Tryd.underlying55 hi g 0 L.length cap (.slice none 0 c) 0 [] (Src.ofNil w Tryd.underlying55 c) (by omega) (fun j hj => by simp at hj) (fun j hj => by simp at hj)
    simpa [World.setCells] using this
theorem wpList_append_list {ops : Array Oper} {rest : List Oper} {o : Oper} {a : Act} {Q : Exit → Act → World → Prop} {w : World} (hgd : o.guard = none) (s x : Operand)
    (ho : o.op = .call { callee := .builtin .append, args := #[s, x], argTypes := #[55, 55] })
    (base : Nat) (v : Value) (L M : List Ins) (hs : a.eval s = v) (hL : LOwn w base v L)
    (ax : Option Addr) (c : Nat) (hx : a.eval x = .slice ax M.length c) (B : Nat) (hM : LIn B w ax M) (hlen : L.length + M.length ≤ maxI) (hbase : base ≤ w.heap.size)
    (h : ∀ v' w', LOwn w' base v' (L ++ M) → w.grownBy w' v.ownBlock → (v'.ownBlock = v.ownBlock ∨ v'.ownBlock = some w.heap.size) → wpList Tryd.prog ops Q rest (a.put o.dst v') w') :
    wpList Tryd.prog ops Q (o :: rest) a w := by
  cases ax with
  | none =>
    have hM0 : M = [] := by
      cases M with
      | nil => rfl
      | cons k M =>
        obtain ⟨b, off, e, _⟩ := hM 0 (by simp)
        cases e
    subst hM0
    refine wpList_plain hgd fun K hK => ?_
    have hr := run_append_nilsrc w o.type base v L c hL
    unfold Oper.wp execOp
    simp only [ho, resolve, invoke, builtin, Sem.run_bind, Sem.run_pure, Result.andThen_ok, List.map_toArray, List.map_cons, List.map_nil, hs, hx, List.length_nil, hr]
    exact hK _ _ (h v w (by simpa using hL) ⟨rfl, rfl, rfl, Nat.le_refl _, fun _ _ _ => rfl⟩ (.inl rfl))
  | some ad =>
    obtain ⟨i0, hi, hz0, hz1, hz2⟩ := info_parts infoInst
    unfold maxI at hlen
    refine wpList_append_own_at _ hgd s x 55 ho base 74 i0 (.agg #[.int .u8 0, .int .i64 0, .int .i64 0, .int .i64 0, .int .i64 0]) 5 40 Tryd.underlying55 hi hz0 hz1 hz2 rfl (by decide)
      v L.length (flat L) hs hL ad M.length c (flat M) hx (flat_length M) (news_flat hM) (flat_one M) (by unfold maxLen; omega) (by omega) hbase ?_
    intro v' w' h1 h2 _ h4
    refine h v' w' ?_ h2 h4
    unfold LOwn
    rw [List.length_append, flat_app]
    exact h1
/-- Encode of rows behind one another. -/
theorem enc_shift (M : List Ins) (j : Nat) (B : List UInt8) : encF M j B = if (encF M 0 []).2.1 = 0 then (B ++ (encF M 0 []).1, 0, 0) else ([], (encF M 0 []).2.1, (j : Int) + (encF M 0 []).2.2) := by
  have gen : ∀ (M : List Ins) (i j : Nat) (A B : List UInt8), (encF M i A).2.1 = (encF M j B).2.1 ∧ ((encF M i A).2.1 = 0 → encF M i A = (A ++ code M, 0, 0) ∧ encF M j B = (B ++ code M, 0, 0)) ∧ ((encF M i A).2.1 ≠ 0 → (encF M i A).1 = [] ∧ (encF M j B).1 = [] ∧ (encF M j B).2.2 - j = (encF M i A).2.2 - i) := by
    intro M
    induction M with
    | nil => intro i j A B; simp [encF, code]
    | cons k M ih =>
      intro i j A B
      rw [encF, encF]
      by_cases hk : k.right = 0
      · rw [if_pos hk, if_pos hk]
        obtain ⟨h1, h2, h3⟩ := ih (i + 1) (j + 1) (A ++ bytesOf k) (B ++ bytesOf k)
        refine ⟨h1, fun h => ?_, fun h => ?_⟩
        · obtain ⟨e1, e2⟩ := h2 h
          rw [e1, e2, code_cons]
          simp
        · obtain ⟨e1, e2, e3⟩ := h3 h
          exact ⟨e1, e2, by omega⟩
      · rw [if_neg hk, if_neg hk]
        exact ⟨rfl, fun h => absurd h hk, fun _ => ⟨rfl, rfl, by simp⟩⟩
  obtain ⟨h1, h2, h3⟩ := gen M 0 j [] B
  by_cases h : (encF M 0 []).2.1 = 0
  · rw [if_pos h]
    obtain ⟨e1, e2⟩ := h2 h
    rw [e2, e1]; simp
  · rw [if_neg h]
    obtain ⟨e1, e2, e3⟩ := h3 h
    apply Prod.ext
    · exact e2
    · apply Prod.ext
      · exact h1.symm
      · show (encF M j B).2.2 = (j : Int) + (encF M 0 []).2.2
        have : ((0 : Nat) : Int) = 0 := rfl
        omega
theorem enc_app (F M : List Ins) (hF : AllR F) (j : Nat) (B : List UInt8) : encF (F ++ M) j B = encF M (j + F.length) (B ++ code F) := by
  induction F generalizing j B with
  | nil => simp [code]
  | cons k F ih =>
    rw [List.cons_append, encF, if_pos (hF k (by simp)), ih (fun x hx => hF x (by simp [hx])), code_cons, List.append_assoc, List.length_cons]
    congr 1
    omega
/-- Decode of bytes behind bytes. -/
theorem dec_shift (n : Nat) (S : List UInt8) (i j : Nat) (A B : List Ins) : (decF n S i A).2.1 = (decF n S j B).2.1 ∧ ((decF n S i A).2.1 = 0 → ∃ L, decF n S i A = (A ++ L, 0, 0) ∧ decF n S j B = (B ++ L, 0, 0)) ∧ ((decF n S i A).2.1 ≠ 0 → (decF n S i A).1 = [] ∧ (decF n S j B).1 = [] ∧ (decF n S j B).2.2 - j = (decF n S i A).2.2 - i) := by
  induction n generalizing S i j A B with
  | zero => exact ⟨rfl, fun _ => ⟨[], by simp [decF], by simp [decF]⟩, fun h => by simp [decF] at h⟩
  | succ n ih =>
    rw [decF, decF]
    by_cases hS : S = []
    · rw [if_pos hS, if_pos hS]
      exact ⟨rfl, fun _ => ⟨[], by simp, by simp⟩, fun h => by simp at h⟩
    · rw [if_neg hS, if_neg hS]
      by_cases he : readE S = 0
      · rw [if_pos he, if_pos he]
        obtain ⟨h1, h2, h3⟩ := ih (S.drop 8) (i + 8) (j + 8) (A ++ [insOf S]) (B ++ [insOf S])
        refine ⟨h1, fun h => ?_, fun h => ?_⟩
        · obtain ⟨L, e1, e2⟩ := h2 h
          exact ⟨insOf S :: L, by rw [e1]; simp, by rw [e2]; simp⟩
        · obtain ⟨e1, e2, e3⟩ := h3 h
          exact ⟨e1, e2, by omega⟩
      · rw [if_neg he, if_neg he]
        exact ⟨rfl, fun h => absurd h he, fun _ => ⟨rfl, rfl, by simp⟩⟩
theorem dec_more (n m : Nat) (S : List UInt8) (j : Nat) (M : List Ins) (hn : S.length < n) (hm : S.length < m) : decF n S j M = decF m S j M := by
  induction n generalizing m S j M with
  | zero => omega
  | succ n ih =>
    cases m with
    | zero => omega
    | succ m =>
      rw [decF, decF]
      by_cases hS : S = []
      · rw [if_pos hS, if_pos hS]
      · rw [if_neg hS, if_neg hS]
        by_cases he : readE S = 0
        · rw [if_pos he, if_pos he]
          have h8 := readE_len he
          exact ih m (S.drop 8) _ _ (by rw [List.length_drop]; omega) (by rw [List.length_drop]; omega)
        · rw [if_neg he, if_neg he]
theorem dec_behind (F : List Ins) (S : List UInt8) (hF : AllR F) (hO : OpsIn F) :
    (decA (code F ++ S)).2.1 = (decA S).2.1 ∧ ((decA S).2.1 = 0 → (decA (code F ++ S)).1 = F ++ (decA S).1) ∧ ((decA S).2.1 ≠ 0 → (decA (code F ++ S)).1 = [] ∧ (decA (code F ++ S)).2.2 = ((8 * F.length : Nat) : Int) + (decA S).2.2) := by
  have e : decA (code F ++ S) = decF (S.length + 1) S (8 * F.length) F := by
    unfold decA
    have hl : (code F ++ S).length + 1 = (7 * F.length + S.length + 1) + F.length := by rw [List.length_append, code_length]; omega
    rw [hl, dec_prefix F hF hO]
    simp only [Nat.zero_add, List.nil_append]
    exact dec_more _ _ _ _ _ (by omega) (by omega)
  rw [e]
  obtain ⟨h1, h2, h3⟩ := dec_shift (S.length + 1) S 0 (8 * F.length) [] F
  refine ⟨h1.symm, fun h => ?_, fun h => ?_⟩
  · obtain ⟨L, e1, e2⟩ := h2 h
    unfold decA
    rw [e1, e2]; simp
  · obtain ⟨e1, e2, e3⟩ := h3 h
    refine ⟨e2, ?_⟩
    unfold decA
    have : ((0 : Nat) : Int) = 0 := rfl
    omega
theorem enc_bad (M : List Ins) (j : Nat) (B : List UInt8) (h : (encF M j B).2.1 ≠ 0) : (j : Int) ≤ (encF M j B).2.2 ∧ (encF M j B).2.2 < (j : Int) + M.length := by
  induction M generalizing j B with
  | nil => simp [encF] at h
  | cons k M ih =>
    rw [encF] at h ⊢
    by_cases hk : k.right = 0
    · rw [if_pos hk] at h ⊢
      have := ih (j + 1) (B ++ bytesOf k) h
      simp only [List.length_cons]
      omega
    · rw [if_neg hk]
      simp
      omega
end Go.Proofs.YtdmkedpnkejpbaaDoor
