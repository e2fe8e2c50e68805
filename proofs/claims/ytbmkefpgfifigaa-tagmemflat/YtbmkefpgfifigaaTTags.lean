/-
  Stage 6, tagmem: the addresses of all granules with a tag.
-/
import Derived.Test.YtbmkefpgfifigaaTMemC
import Derived.Deep.AppendLies
namespace Go.Proofs.Ytbmkefpgfifigaa
namespace T
open Go.RowKit

/-- The addresses of granules with a tag, of so many. -/
def tagsL (t : Nat → Option Cp) : Nat → List Nat
  | 0 => []
  | n + 1 => tagsL t n ++ if plTag (t n) then [n * 16] else []
theorem tagsL_len (t : Nat → Option Cp) (n : Nat) : (tagsL t n).length ≤ n := by
  induction n with
  | zero => simp [tagsL]
  | succ n ih =>
    rw [tagsL, List.length_append]
    split <;> simp <;> omega
def u64V (n : Nat) : Value := .int .u64 n
/-- A row of numbers that the call owns. -/
def UOwn (w : World) (base : Nat) (v : Value) (L : List Nat) : Prop := w.ownsRow base 23 1 v L.length (L.map u64V)
theorem UOwn.below {w w1 : World} {base : Nat} {v : Value} {L : List Nat} (h : UOwn w base v L) (hb : Below w.heap.size w w1) : UOwn w1 base v L := by
  refine ⟨h.1, ?_⟩
  rcases h.2 with h2 | ⟨g, cap, cur, hv, hbg, hg, rest⟩
  · exact .inl h2
  · have hlt : g < w.heap.size := (Array.getElem?_eq_some_iff.1 hg).1
    exact .inr ⟨g, cap, cur, hv, hbg, (hb.block g hlt).trans hg, rest⟩
theorem UOwn.nil (w : World) (base : Nat) : UOwn w base (.slice none 0 0) [] := ⟨rfl, .inl ⟨rfl, rfl⟩⟩
theorem UOwn.block {w : World} {base : Nat} {v : Value} {L : List Nat} (h : UOwn w base v L) : ∀ g, v.ownBlock = some g → base ≤ g ∧ g < w.heap.size := by
  intro g hg
  rcases h.2 with ⟨rfl, _⟩ | ⟨g', cap, cur, rfl, hbg, hh, rest⟩
  · cases hg
  · have : g' = g := by simpa [Value.ownBlock] using hg
    subst this
    exact ⟨hbg, (Array.getElem?_eq_some_iff.1 hh).1⟩
theorem UOwn.form {w : World} {base : Nat} {v : Value} {L : List Nat} (h : UOwn w base v L) : ∃ a cap, v = .slice a L.length cap ∧ ∀ i (hi : i < L.length), ∃ g, a = some ⟨g, 0, none⟩ ∧ g < w.heap.size ∧ w.cell? ⟨g, i, none⟩ = some (u64V L[i]) := by
  rcases h.2 with ⟨rfl, h0⟩ | ⟨g, cap, cur, rfl, hbg, hh, rest⟩
  · refine ⟨none, 0, by rw [h0], fun i hi => ?_⟩
    omega
  · refine ⟨_, cap, rfl, fun i hi => ⟨g, rfl, (Array.getElem?_eq_some_iff.1 hh).1, ?_⟩⟩
    have hc := World.ownsRow.cells h (g := g) rfl i (u64V L[i]) (by simp [hi])
    rwa [addr_add] at hc
theorem infoU64 : (Try.prog.info? 23).map (fun i => (i.zero, i.size, i.bytes)) = some (some (.int .u64 0), 1, 8) := by kernel_rfl
theorem info_parts' {t : TypeId} {z : Value} {s b : Nat} (h : (Try.prog.info? t).map (fun i => (i.zero, i.size, i.bytes)) = some (some z, s, b)) :
    ∃ i, Try.prog.info? t = some i ∧ i.zero = some z ∧ i.size = s ∧ i.bytes = b := by
  obtain ⟨i, hi, he⟩ := Option.map_eq_some_iff.1 h
  simp only [Prod.mk.injEq] at he
  exact ⟨i, hi, he.1, he.2.1, he.2.2⟩
/-- One number appended, which lies in a new block. -/
theorem wpList_append_num {ops : Array Oper} {rest : List Oper} {o : Oper} {a : Act} {Q : Exit → Act → World → Prop} {w : World} (hgd : o.guard = none) (s x : Operand)
    (ho : o.op = .call { callee := .builtin .append, args := #[s, x], argTypes := #[58, 58] })
    (base : Nat) (v : Value) (L : List Nat) (y : Nat) (hs : a.eval s = v) (hL : UOwn w base v L)
    (X : Nat) (hx : a.eval x = .slice (some ⟨X, 0, none⟩) 1 1) (hX : At w X #[.int .u64 y]) (hlen : L.length ≤ 1000000) (hbase : base ≤ w.heap.size)
    (h : ∀ g cap w', UOwn w' base (.slice (some ⟨g, 0, none⟩) (L.length + 1) cap) (L ++ [y]) → w.grownBy w' v.ownBlock → wpList Try.prog ops Q rest (a.put o.dst (.slice (some ⟨g, 0, none⟩) (L.length + 1) cap)) w') :
    wpList Try.prog ops Q (o :: rest) a w := by
  obtain ⟨i0, hi, hz0, hz1, hz2⟩ := info_parts' infoU64
  have hn : ∀ j u, [Value.int .u64 y][j]? = some u → w.cell? ((⟨X, 0, none⟩ : Addr).add j) = some u := by
    intro j u hj
    rw [addr_add, hX.2.1]
    simpa using hj
  refine wpList_append_lies _ hgd s x 58 ho base 23 i0 (.int .u64 0) 1 8 Try.underlying58 hi hz0 hz1 hz2 rfl (by decide)
    v L.length (L.map u64V) hs hL ⟨X, 0, none⟩ 1 1 [.int .u64 y] hx rfl hn (by simp [Value.oneCell']) (by decide) (by unfold maxLen; omega) (by omega) hbase _ rfl ?_
  intro g cap w' h1 h2 _ _
  refine h g cap w' ?_ h2
  unfold UOwn
  rw [List.length_append, List.map_append]
  exact h1
theorem Below.of_grown {B : Nat} {w w1 : World} {row : Option Nat} (h : w.grownBy w1 row) (hB : B ≤ w.heap.size) (hr : ∀ g, row = some g → B ≤ g) : Below B w w1 :=
  ⟨h.os, h.tape, h.output, h.size, fun k hk => h.block k (Nat.lt_of_lt_of_le hk hB) (fun e => by have := hr k e.symm; omega)⟩
theorem drewN_below (w : World) (n : Nat) : Below w.heap.size w (w.drewN n) := by
  induction n with
  | zero => exact Below.refl _ _
  | succ n ih => exact Below.drew ih
theorem tagsL_none (t : Nat → Option Cp) (n m : Nat) (h : ∀ j, j < m → t (n + j) = none) : tagsL t (n + m) = tagsL t n := by
  induction m with
  | zero => rfl
  | succ m ih =>
    rw [← Nat.add_assoc, tagsL, ih (fun j hj => h j (by omega)), h m (by omega)]
    simp [plTag]
set_option maxRecDepth 10000 in
set_option maxHeartbeats 2000000 in
theorem places_any (S : Nat → Prop) (a : Nat) (t : Nat → Option Cp) (w : World) (h : CgIn S w a t) :
    Calls Try.prog 41 #[.pointer (some ⟨a, 64, none⟩)] w fun x w' => ∃ v, x = .returned v ∧ UOwn w' w.heap.size v (tagsL t 4096) ∧ Below w.heap.size w w' := by
  obtain ⟨cg, h⟩ := h
  replace h := Hid.mk h
  go_enter Try.func41, Try.ntmps41
  go_wp2_with fail
  go_loopw [3, 9] (fun l v wr => ∃ i : Nat, v = .int .i64 i ∧ i ≤ 64 ∧ UOwn wr w.heap.size l (tagsL t (i * 64)) ∧ Below w.heap.size w wr) (fun _ v _ => 64 - (intOf v).toNat)
  case atStart => exact ⟨0, rfl, by omega, UOwn.nil _ _, Below.refl _ _⟩
  case round =>
    obtain ⟨i, rfl, hi, hO, hB⟩ := hrel
    by_cases hlt : i < 64
    · have jl : (i : Int) < 64 := by omega
      have h1 := h.out.gr hB
      have c1 := (h1.box i hlt).1
      obtain ⟨la, lc, rfl, hl⟩ := hO.form
      cases e : cg i with
      | none =>
        have hnx := tagsL_none t (i * 64) 64 (h1.zero i hlt e)
        rw [e] at c1
        simp only [ptr, Option.map_none] at c1
        replace h1 := Hid.mk h1
        replace hO := Hid.mk hO
        replace hB := Hid.mk hB
        replace hnx := Hid.mk hnx
        clear hl
        go_wp2_with fail
        go_quiet (fail)
        go_wp2_with fail
        exact ⟨⟨i + 1, by go_num, by omega, by rw [show (i + 1) * 64 = i * 64 + 64 by omega, hnx.out]; exact hO.out.below (drewN_below _ _), hB.out.trans ((drewN_below _ _).mono hB.out.size)⟩, by simp [intOf]; omega⟩
      | some k =>
        rw [e] at c1
        simp only [ptr, Option.map_some] at c1
        replace h1 := Hid.mk h1
        replace hO := Hid.mk hO
        replace hB := Hid.mk hB
        clear hl
        go_wp2_with fail
        go_quiet (fail)
        go_wp2_with fail
        go_loopw [3, 19] (fun l v wq => ∃ j : Nat, v = .int .i64 j ∧ j ≤ 64 ∧ UOwn wq w.heap.size l (tagsL t (i * 64 + j)) ∧ Below w.heap.size w wq) (fun _ v _ => 64 - (intOf v).toNat)
        case atStart => exact ⟨0, rfl, by omega, hO.out.below (drewN_below _ _), hB.out.trans ((drewN_below _ _).mono hB.out.size)⟩
        case round =>
          clear hO hB c1
          obtain ⟨j, rfl, hj, hO, hB⟩ := hrel
          obtain ⟨la, lc, rfl, hl⟩ := hO.form
          by_cases hjt : j < 64
          · have jl2 : (j : Int) < 64 := by omega
            have h2 := h.out.gr hB
            have hp := h2.page i k hlt e
            obtain ⟨c0, c1, c2, c3, c4, c5⟩ := hp.2.2.1 j hjt
            have hnx : tagsL t (i * 64 + (j + 1)) = tagsL t (i * 64 + j) ++ if plTag (t (i * 64 + j)) then [(i * 64 + j) * 16] else [] := rfl
            have hk := hp.2.1
            have hlen := tagsL_len t (i * 64 + j)
            replace h2 := Hid.mk h2
            replace hp := Hid.mk hp
            replace hO := Hid.mk hO
            replace hB := Hid.mk hB
            replace hlen := Hid.mk hlen
            clear hl
            generalize (plCap (t (i * 64 + j))).b = v1 at *
            generalize (plCap (t (i * 64 + j))).e = v2 at *
            generalize (plCap (t (i * 64 + j))).c = v3 at *
            generalize (plCap (t (i * 64 + j))).p = v4 at *
            generalize (plCap (t (i * 64 + j))).s = v5 at *
            cases e2 : plTag (t (i * 64 + j)) with
            | false =>
              rw [e2] at c0 hnx
              simp only [Bool.false_eq_true, if_false, List.append_nil] at hnx
              replace hnx := Hid.mk hnx
              go_wp2_with fail
              go_region
              go_wp2_with fail
              exact ⟨⟨j + 1, by go_num, by omega, by rw [hnx.out]; exact hO.out.below (Below.drew ((Below.refl _ _).alloc (Nat.le_refl _) _)), Below.drew (hB.out.alloc hB.out.size _)⟩, by simp [intOf]; omega⟩
            | true =>
              rw [e2] at c0 hnx
              simp only [if_true] at hnx
              replace hnx := Hid.mk hnx
              have m1 : IntKind.i64.wrap ((i : Int) * 1024) = i * 1024 := by rw [IntKind.wrap_i64]; omega
              have m2 : IntKind.i64.wrap ((j : Int) * 16) = j * 16 := by rw [IntKind.wrap_i64]; omega
              have m3 : IntKind.i64.wrap ((i : Int) * 1024 + j * 16) = (((i * 64 + j) * 16 : Nat) : Int) := by rw [IntKind.wrap_i64]; omega
              have m4 : IntKind.u64.wrap (((i * 64 + j) * 16 : Nat) : Int) = (((i * 64 + j) * 16 : Nat) : Int) := by rw [IntKind.wrap_u64]; omega
              have ey : (((i * 64 + j) * 16 : Nat) : Int) = ((i : Int) * 64 + j) * 16 := by omega
              replace ey := Hid.mk ey
              go_wp2_with fail
              go_region
              go_wp2_with (at_builtin; refine wpList_append_num rfl (.tmp 27) (.tmp 34) rfl w.heap.size (.slice la (tagsL t (i * 64 + j)).length lc) (tagsL t (i * 64 + j)) ((i * 64 + j) * 16) rfl (hO.out.below (Below.drew (((Below.refl _ _).alloc (Nat.le_refl _) _).alloc (by simp) _))) (wr.heap.size + 1) rfl (by rw [ey.out]; exact (At.next _ _ _ _).drew) (by have := hlen.out; omega) (by have := hB.out.size; simp; omega) ?_)
              intro g cap w2 hO2 hg
              have hB2 := (Below.drew ((hB.out.alloc hB.out.size _).alloc (by have := hB.out.size; simp; omega) _)).trans (Below.of_grown hg (by have := hB.out.size; simp; omega) (fun q hq => (hO.out.block q hq).1))
              replace hB2 := Hid.mk hB2
              replace hO2 := Hid.mk hO2
              clear hg
              go_wp2_with fail
              exact ⟨⟨j + 1, by go_num, by omega, by rw [hnx.out]; exact hO2.out, hB2.out⟩, by simp [intOf]; omega⟩
          · have jl2 : ¬ (j : Int) < 64 := by omega
            have : j = 64 := by omega
            subst this
            replace hO := Hid.mk hO
            replace hB := Hid.mk hB
            clear hl
            go_wp2_with fail
            exact ⟨⟨i + 1, by go_num, by omega, by rw [show (i + 1) * 64 = i * 64 + 64 by omega]; exact hO.out, hB.out⟩, by simp [intOf]; omega⟩
    · have jl : ¬ (i : Int) < 64 := by omega
      have : i = 64 := by omega
      subst this
      obtain ⟨la, lc, rfl, hl⟩ := hO.form
      replace hO := Hid.mk hO
      replace hB := Hid.mk hB
      clear hl
      go_wp2_with fail
      go_ret
      exact ⟨_, rfl, hO.out, hB.out⟩
end T
end Go.Proofs.Ytbmkefpgfifigaa
