import Derived.Test.YtoppcikacakjcaaP23
/-
  Stage 8, flow: 'full', walked.
-/
namespace Go.Proofs.Ytoppcikacakjcaa
namespace F
open Go.RowKit
open T

theorem XO.here {base : Nat} {w : World} {v : Value} {m : Nat} {b : Bool} (h : XO base w v m b) (hm : 0 < m) : ∃ g c, v = .slice (some ⟨g, 0, none⟩) m c ∧ base ≤ g ∧ g < w.heap.size := by
  rcases h.2 with ⟨_, h0⟩ | ⟨g, cap, cur, hv, hb, hh, _⟩
  · omega
  · exact ⟨g, cap, hv, hb, (Array.getElem?_eq_some_iff.1 hh).1⟩
theorem XO.slice {base : Nat} {w : World} {v : Value} {m : Nat} {b : Bool} (h : XO base w v m b) : ∃ a c, v = .slice a m c := by
  rcases h.2 with ⟨rfl, h0⟩ | ⟨g, cap, cur, rfl, _⟩
  · exact ⟨none, 0, by rw [h0]⟩
  · exact ⟨_, cap, rfl⟩
end F
end Go.Proofs.Ytoppcikacakjcaa


/-
  Stage 8, flow: the law's book: lists that came out, each with its mark; colours of blocks.
-/
namespace Go.Proofs.Ytoppcikacakjcaa
namespace F
open Go.RowKit
open T

/-- A row of its own, all of one number. -/
def XI (base : Nat) (w : World) (v : Value) (n : Nat) (m : Int) : Prop := w.ownsRow base 3 1 v n (List.replicate n (.int .i64 m))
/-- What is a number stays that number. -/
def Mine (m : Int) (w w' : World) : Prop := ∀ k o, w.cell? ⟨k, o, none⟩ = some (.int .i64 m) → w'.cell? ⟨k, o, none⟩ = some (.int .i64 m)
theorem Mine.refl (m : Int) (w : World) : Mine m w w := fun _ _ h => h
theorem Mine.trans {m : Int} {w w1 w2 : World} (h : Mine m w w1) (g : Mine m w1 w2) : Mine m w w2 := fun k o q => g k o (h k o q)
theorem Mine.below {m : Int} {w w1 : World} (h : Below w.heap.size w w1) : Mine m w w1 := fun k o q => by
  have hk : k < w.heap.size := World.block_lt_of_cell? w ⟨k, o, none⟩ q
  exact (cell_of_block (h.block k hk) o).trans q
theorem Mine.set {m : Int} (w : World) (k o : Nat) (h : ∃ y, w.cell? ⟨k, o, none⟩ = some y) : Mine m w (w.setCell ⟨k, o, none⟩ (.int .i64 m)) := fun k' o' q => by
  by_cases e : k = k' ∧ o = o'
  · obtain ⟨rfl, rfl⟩ := e
    obtain ⟨y, hy⟩ := h
    exact World.cell?_setCell_same w _ _ hy
  · rw [cso (fun e1 e2 => e ⟨e1, e2⟩)]
    exact q
theorem run_append_x (w : World) (ty : TypeId) (base : Nat) (v : Value) (n : Nat) (m : Int) (X : Nat) (h : XI base w v n m) (hX : At w X #[.int .i64 m]) (hn : n ≤ 2000000) (hb : base ≤ w.heap.size) :
    ∃ g c w', (Builtin.append_ #[23, 23] ty #[v, .slice (some ⟨X, 0, none⟩) 1 1]).run Try.prog w = .ok (.slice (some ⟨g, 0, none⟩) (n + 1) c) w' ∧ XI base w' (.slice (some ⟨g, 0, none⟩) (n + 1) c) (n + 1) m ∧ w.grownBy w' v.ownBlock ∧ (v.ownBlock = some g ∨ g = w.heap.size) ∧ g < w'.heap.size ∧ Mine m w w' := by
  obtain ⟨i0, hi, hz0, hz1, hz2⟩ := info_parts' (t := 3) (z := .int .i64 0) (s := 1) (b := 8) (by kernel_rfl)
  have hnews : ∀ j u, [Value.int .i64 m][j]? = some u → w.cell? ((⟨X, 0, none⟩ : Addr).add j) = some u := fun j u hj => by
    rw [addr_add, hX.2.1]
    simpa using hj
  have h1' : ∀ u ∈ [Value.int .i64 m], u.oneCell' = true := fun u hu => by rw [List.mem_singleton] at hu; rw [hu]; rfl
  obtain ⟨g, c, w', hr, h2, h3, h4, h5⟩ := run_append_lies (P := Try.prog) w 23 ty base 3 i0 (.int .i64 0) 1 8 Try.underlying23 hi hz0 hz1 hz2 rfl (by decide) v n _ h ⟨X, 0, none⟩ 1 1 [.int .i64 m] rfl hnews h1' (by decide) (by unfold maxLen; omega) (by omega) hb _ rfl
  have e : List.replicate n (Value.int .i64 m) ++ [Value.int .i64 m] = List.replicate (n + 1) (Value.int .i64 m) := by rw [List.replicate_succ']
  rw [e] at h2
  refine ⟨g, c, w', hr, h2, h3, h4, h5, fun k o q => ?_⟩
  have hk : k < w.heap.size := World.block_lt_of_cell? w ⟨k, o, none⟩ q
  by_cases hv : v.ownBlock = some k
  · rcases h.2 with ⟨rfl, _⟩ | ⟨g', cap, cur, rfl, hbg, hg, hnc, hcm, hcs, htake⟩
    · cases hv
    · have hv' : g' = k := by simpa [Value.ownBlock] using hv
      subst hv'
      by_cases hroom : n + 1 ≤ cap
      · have hrr := run_append_room (P := Try.prog) w 23 ty 3 i0 Try.underlying23 hi g' n cap cur hg ⟨X, 0, none⟩ 1 1 [.int .i64 m] (by rw [hz1]; rfl) hnews h1' hroom (by rw [hz1]; simp; omega)
        rw [hr] at hrr
        injection hrr with e1 e2
        subst e2
        have hsr := setRow_heap w g' cur (cur.toList.take (n * i0.size) ++ [Value.int .i64 m] ++ cur.toList.drop (n * i0.size + [Value.int .i64 m].length)).toArray 3 _ hg
        rw [cell_of_row _ g' o _ _ _ hsr]
        rw [cell_of_row w g' o cur _ _ hg] at q
        rw [hz1, Nat.mul_one]
        rw [List.getElem?_toArray]
        have hlt : (cur.toList.take n).length = n := by rw [List.length_take]; simp; omega
        by_cases ho : o < n
        · rw [List.append_assoc, List.getElem?_append_left (by omega), List.getElem?_take_of_lt ho]
          simpa using q
        · rw [List.append_assoc, List.getElem?_append_right (by omega), hlt]
          by_cases ho2 : o = n
          · subst ho2; simp
          · rw [List.getElem?_append_right (by simp; omega), List.getElem?_drop]
            have : n + [Value.int .i64 m].length + (o - n - [Value.int .i64 m].length) = o := by simp; omega
            rw [this]
            simpa using q
      · have holds : ∀ j u, (List.replicate n (Value.int .i64 m))[j]? = some u → w.cell? ((⟨g', 0, none⟩ : Addr).add j) = some u := World.ownsRow.cells h (g := g') rfl
        have hrr := run_append_grow (P := Try.prog) w 23 ty 3 i0 (.int .i64 0) Try.underlying23 hi hz0 ⟨g', 0, none⟩ n cap (List.replicate n (.int .i64 m)) (by rw [hz1]; simp) holds ⟨X, 0, none⟩ 1 1 [.int .i64 m] (by rw [hz1]; rfl) hnews (by omega) (by omega) (by rw [hz2]; exact growslice_fits (by omega) (by omega))
        rw [hr] at hrr
        injection hrr with e1 e2
        subst e2
        exact (cell_of_block (heap_alloc_old w.drew _ hk) o).trans q
  · exact h3.cell (a := ⟨k, o, none⟩) q (fun e => hv e.symm)
theorem wpList_append_x {ops : Array Oper} {rest : List Oper} {o : Oper} {a : Act} {Q : Exit → Act → World → Prop} {w : World} (hgd : o.guard = none) (s x : Operand)
    (ho : o.op = .call { callee := .builtin .append, args := #[s, x], argTypes := #[23, 23] })
    (base : Nat) (v : Value) (n : Nat) (m : Int) (hs : a.eval s = v) (hv : XI base w v n m) (X : Nat) (hx : a.eval x = .slice (some ⟨X, 0, none⟩) 1 1) (hX : At w X #[.int .i64 m]) (hn : n ≤ 2000000) (hb : base ≤ w.heap.size)
    (h : ∀ g c w', XI base w' (.slice (some ⟨g, 0, none⟩) (n + 1) c) (n + 1) m → w.grownBy w' v.ownBlock → (v.ownBlock = some g ∨ g = w.heap.size) → g < w'.heap.size → Mine m w w' → wpList Try.prog ops Q rest (a.put o.dst (.slice (some ⟨g, 0, none⟩) (n + 1) c)) w') :
    wpList Try.prog ops Q (o :: rest) a w := by
  refine wpList_plain hgd fun K hK => ?_
  obtain ⟨g, c, w', hr, h1, h2, h3, h4, h5⟩ := run_append_x w o.type base v n m X hv hX hn hb
  unfold Oper.wp execOp
  simp only [ho, resolve, invoke, builtin, Sem.run_bind, Sem.run_pure, Result.andThen_ok, List.map_toArray, List.map_cons, List.map_nil, hs, hx, hr]
  exact hK _ _ (h g c w' h1 h2 h3 h4 h5)
/-- So much may have changed: blocks of one colour, and new ones. -/
def Stp (m : Int) (w w' : World) (c c' : Nat → Int) : Prop := Kp (fun k => c k = m) w w' ∧ ∀ k, k < w.heap.size → c' k = c k
theorem Stp.refl (m : Int) (w : World) (c : Nat → Int) : Stp m w w c c := ⟨Kp.refl _ _, fun _ _ => rfl⟩
theorem Stp.trans {m : Int} {w w1 w2 : World} {c c1 c2 : Nat → Int} (h : Stp m w w1 c c1) (g : Stp m w1 w2 c1 c2) : Stp m w w2 c c2 :=
  ⟨h.1.trans g.1 (fun k q => by
    by_cases hk : k < w.heap.size
    · exact .inl ((h.2 k hk).symm.trans q)
    · exact .inr (by omega)), fun k hk => (g.2 k (Nat.lt_of_lt_of_le hk h.1.size)).trans (h.2 k hk)⟩
theorem Stp.of_below {m : Int} {w w1 : World} {c : Nat → Int} (h : Below w.heap.size w w1) : Stp m w w1 c c := ⟨Kp.of_below h, fun _ _ => rfl⟩
theorem Stp.set {m : Int} (w : World) (a : Addr) (v : Value) (c : Nat → Int) (h : c a.block = m) : Stp m w (w.setCell a v) c c := ⟨Kp.set (S := fun k => c k = m) w a v h, fun _ _ => rfl⟩
/-- The colour of a value's block. -/
def Cl (c : Nat → Int) (v : Value) (m : Int) : Prop := ∀ g, v.ownBlock = some g → c g = m
def updC (c : Nat → Int) (g : Nat) (m : Int) : Nat → Int := fun k => if k = g then m else c k
theorem updC_ne {c : Nat → Int} {g k : Nat} {m : Int} (h : k ≠ g) : updC c g m k = c k := by simp [updC, h]
theorem updC_eq {c : Nat → Int} {g : Nat} {m : Int} : updC c g m g = m := by simp [updC]
theorem Stp.grown {m : Int} {w w1 : World} {c : Nat → Int} {row : Option Nat} {g : Nat} (h : w.grownBy w1 row) (hr : ∀ k, row = some k → c k = m) (hg : row = some g ∨ g = w.heap.size) : ∃ c', Stp m w w1 c c' ∧ c' g = m := by
  have hk : Kp (fun k => c k = m) w w1 := ⟨h.os, h.tape, h.output, h.size, fun k hk hn => h.block k hk (fun e => hn (hr k e.symm))⟩
  rcases hg with hg | hg
  · exact ⟨c, ⟨hk, fun _ _ => rfl⟩, hr g hg⟩
  · exact ⟨updC c g m, ⟨hk, fun k hk => updC_ne (by omega)⟩, updC_eq⟩
theorem cl_some {c : Nat → Int} {g n cp : Nat} {m : Int} (h : c g = m) : Cl c (.slice (some ⟨g, 0, none⟩) n cp) m := fun k e => by
  have : g = k := by simpa [Value.ownBlock] using e
  rw [← this]; exact h
theorem Stp.own {m m' : Int} {w w1 : World} {c c1 : Nat → Int} {base e size n : Nat} {v : Value} {xs : List Value} (h : Stp m w w1 c c1) (ho : w.ownsRow base e size v n xs) (hc : Cl c v m') (hne : m' ≠ m) : w1.ownsRow base e size v n xs ∧ Cl c1 v m' :=
  ⟨own_kp ho h.1 (fun g q r => hne ((hc g q).symm.trans r)), fun g q => (h.2 g (World.ownsRow.lt ho g q).2).trans (hc g q)⟩
theorem Stp.at {m m' : Int} {w w1 : World} {c c1 : Nat → Int} {k : Nat} {cs : Array Value} (h : Stp m w w1 c c1) (ho : At w k cs) (hc : c k = m') (hne : m' ≠ m) : At w1 k cs ∧ c1 k = m' :=
  ⟨at_kp ho h.1 (fun r => hne (hc.symm.trans r)), (h.2 k ho.1).trans hc⟩
/-- A list that reads as its owner wrote it. -/
def Rd (w : World) (c : Nat → Int) (v : Value) (m : Int) : Prop := ∃ a n cp, v = .slice a n cp ∧ n ≤ 2000000 ∧ ∀ k, k < n → ∃ b, a = some ⟨b, 0, none⟩ ∧ b < w.heap.size ∧ c b = m ∧ w.cell? ⟨b, k, none⟩ = some (.int .i64 (-m))
theorem Rd.of {base : Nat} {w : World} {c : Nat → Int} {v : Value} {n : Nat} {m : Int} (h : XI base w v n (-m)) (hc : Cl c v m) (hn : n ≤ 2000000) : Rd w c v m := by
  rcases h.2 with ⟨rfl, h0⟩ | ⟨g, cap, cur, rfl, hb, hh, _⟩
  · exact ⟨none, 0, 0, rfl, by omega, fun k hk => by omega⟩
  · refine ⟨_, n, cap, rfl, hn, fun k hk => ⟨g, rfl, (Array.getElem?_eq_some_iff.1 hh).1, hc g rfl, ?_⟩⟩
    have := World.ownsRow.cells h (g := g) rfl k (.int .i64 (-m)) (by simp [hk])
    rwa [addr_add, Nat.zero_add] at this
theorem Rd.stp {w w1 : World} {c c1 : Nat → Int} {v : Value} {m m' : Int} (h : Rd w c v m) (hs : Stp m' w w1 c c1) (hne : m ≠ m') : Rd w1 c1 v m := by
  obtain ⟨a, n, cp, rfl, h0, h1⟩ := h
  refine ⟨a, n, cp, rfl, h0, fun k hk => ?_⟩
  obtain ⟨b, rfl, h2, h3, h4⟩ := h1 k hk
  exact ⟨b, rfl, Nat.lt_of_lt_of_le h2 hs.1.size, (hs.2 b h2).trans h3, (cell_of_block (hs.1.block b h2 (fun q => hne (h3.symm.trans q))) k).trans h4⟩
theorem Rd.mine {w w1 : World} {c c1 : Nat → Int} {v : Value} {m : Int} (h : Rd w c v m) (hs : Stp m w w1 c c1) (hm : Mine (-m) w w1) : Rd w1 c1 v m := by
  obtain ⟨a, n, cp, rfl, h0, h1⟩ := h
  refine ⟨a, n, cp, rfl, h0, fun k hk => ?_⟩
  obtain ⟨b, rfl, h2, h3, h4⟩ := h1 k hk
  exact ⟨b, rfl, Nat.lt_of_lt_of_le h2 hs.1.size, (hs.2 b h2).trans h3, hm b k h4⟩
end F
end Go.Proofs.Ytoppcikacakjcaa
