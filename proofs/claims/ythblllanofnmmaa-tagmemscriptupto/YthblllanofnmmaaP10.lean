import Derived.Test.YthblllanofnmmaaP09
import Derived.Deep.AppendLies
/-
  Stage 6, tagmem: the addresses of all granules with a tag.
-/
namespace Go.Proofs.Ythblllanofnmmaa
namespace T
open Go.RowKit

/-- The addresses of granules with a tag, of so many. -/
def tagsL (t : Nat → Option Cp) : Nat → List Nat
  | 0 => []
  | n + 1 => tagsL t n ++ if plTag (t n) then [n * 16] else []
theorem tagsL_len (t : Nat → Option Cp) (n : Nat) : (tagsL t n).length ≤ n := by
  induction n with
  | zero => simp [tagsL]
  | succ n ih =>
    rw [tagsL, List.length_append]
    split <;> simp <;> omega
def u64V (n : Nat) : Value := .int .u64 n
/-- A row of numbers that the call owns. -/
def UOwn (w : World) (base : Nat) (v : Value) (L : List Nat) : Prop := w.ownsRow base 42 1 v L.length (L.map u64V)
theorem UOwn.below {w w1 : World} {base : Nat} {v : Value} {L : List Nat} (h : UOwn w base v L) (hb : Below w.heap.size w w1) : UOwn w1 base v L := by
  refine ⟨h.1, ?_⟩
  rcases h.2 with h2 | ⟨g, cap, cur, hv, hbg, hg, rest⟩
  · exact .inl h2
  · have hlt : g < w.heap.size := (Array.getElem?_eq_some_iff.1 hg).1
    exact .inr ⟨g, cap, cur, hv, hbg, (hb.block g hlt).trans hg, rest⟩
theorem UOwn.nil (w : World) (base : Nat) : UOwn w base (.slice none 0 0) [] := ⟨rfl, .inl ⟨rfl, rfl⟩⟩
theorem UOwn.block {w : World} {base : Nat} {v : Value} {L : List Nat} (h : UOwn w base v L) : ∀ g, v.ownBlock = some g → base ≤ g ∧ g < w.heap.size := by
  intro g hg
  rcases h.2 with ⟨rfl, _⟩ | ⟨g', cap, cur, rfl, hbg, hh, rest⟩
  · cases hg
  · have : g' = g := by simpa [Value.ownBlock] using hg
    subst this
    exact ⟨hbg, (Array.getElem?_eq_some_iff.1 hh).1⟩
theorem UOwn.form {w : World} {base : Nat} {v : Value} {L : List Nat} (h : UOwn w base v L) : ∃ a cap, v = .slice a L.length cap ∧ ∀ i (hi : i < L.length), ∃ g, a = some ⟨g, 0, none⟩ ∧ g < w.heap.size ∧ w.cell? ⟨g, i, none⟩ = some (u64V L[i]) := by
  rcases h.2 with ⟨rfl, h0⟩ | ⟨g, cap, cur, rfl, hbg, hh, rest⟩
  · refine ⟨none, 0, by rw [h0], fun i hi => ?_⟩
    omega
  · refine ⟨_, cap, rfl, fun i hi => ⟨g, rfl, (Array.getElem?_eq_some_iff.1 hh).1, ?_⟩⟩
    have hc := World.ownsRow.cells h (g := g) rfl i (u64V L[i]) (by simp [hi])
    rwa [addr_add] at hc
theorem infoU64 : (Try.prog.info? 42).map (fun i => (i.zero, i.size, i.bytes)) = some (some (.int .u64 0), 1, 8) := by kernel_rfl
theorem info_parts' {t : TypeId} {z : Value} {s b : Nat} (h : (Try.prog.info? t).map (fun i => (i.zero, i.size, i.bytes)) = some (some z, s, b)) :
    ∃ i, Try.prog.info? t = some i ∧ i.zero = some z ∧ i.size = s ∧ i.bytes = b := by
  obtain ⟨i, hi, he⟩ := Option.map_eq_some_iff.1 h
  simp only [Prod.mk.injEq] at he
  exact ⟨i, hi, he.1, he.2.1, he.2.2⟩
/-- One number appended, which lies in a new block. -/
theorem wpList_append_num {ops : Array Oper} {rest : List Oper} {o : Oper} {a : Act} {Q : Exit → Act → World → Prop} {w : World} (hgd : o.guard = none) (s x : Operand)
    (ho : o.op = .call { callee := .builtin .append, args := #[s, x], argTypes := #[77, 77] })
    (base : Nat) (v : Value) (L : List Nat) (y : Nat) (hs : a.eval s = v) (hL : UOwn w base v L)
    (X : Nat) (hx : a.eval x = .slice (some ⟨X, 0, none⟩) 1 1) (hX : At w X #[.int .u64 y]) (hlen : L.length ≤ 1000000) (hbase : base ≤ w.heap.size)
    (h : ∀ g cap w', UOwn w' base (.slice (some ⟨g, 0, none⟩) (L.length + 1) cap) (L ++ [y]) → w.grownBy w' v.ownBlock → wpList Try.prog ops Q rest (a.put o.dst (.slice (some ⟨g, 0, none⟩) (L.length + 1) cap)) w') :
    wpList Try.prog ops Q (o :: rest) a w := by
  obtain ⟨i0, hi, hz0, hz1, hz2⟩ := info_parts' infoU64
  have hn : ∀ j u, [Value.int .u64 y][j]? = some u → w.cell? ((⟨X, 0, none⟩ : Addr).add j) = some u := by
    intro j u hj
    rw [addr_add, hX.2.1]
    simpa using hj
  refine wpList_append_lies _ hgd s x 77 ho base 42 i0 (.int .u64 0) 1 8 Try.underlying77 hi hz0 hz1 hz2 rfl (by decide)
    v L.length (L.map u64V) hs hL ⟨X, 0, none⟩ 1 1 [.int .u64 y] hx rfl hn (by simp [Value.oneCell']) (by decide) (by unfold maxLen; omega) (by omega) hbase _ rfl ?_
  intro g cap w' h1 h2 _ _
  refine h g cap w' ?_ h2
  unfold UOwn
  rw [List.length_append, List.map_append]
  exact h1
theorem Below.of_grown {B : Nat} {w w1 : World} {row : Option Nat} (h : w.grownBy w1 row) (hB : B ≤ w.heap.size) (hr : ∀ g, row = some g → B ≤ g) : Below B w w1 :=
  ⟨h.os, h.tape, h.output, h.size, fun k hk => h.block k (Nat.lt_of_lt_of_le hk hB) (fun e => by have := hr k e.symm; omega)⟩
theorem drewN_below (w : World) (n : Nat) : Below w.heap.size w (w.drewN n) := by
  induction n with
  | zero => exact Below.refl _ _
  | succ n ih => exact Below.drew ih
theorem tagsL_none (t : Nat → Option Cp) (n m : Nat) (h : ∀ j, j < m → t (n + j) = none) : tagsL t (n + m) = tagsL t n := by
  induction m with
  | zero => rfl
  | succ m ih =>
    rw [← Nat.add_assoc, tagsL, ih (fun j hj => h j (by omega)), h m (by omega)]
    simp [plTag]
set_option maxRecDepth 10000 in
set_option maxHeartbeats 2000000 in
theorem places_any (S : Nat → Prop) (a : Nat) (t : Nat → Option Cp) (w : World) (h : CgIn S w a t) :
    Calls Try.prog 42 #[.pointer (some ⟨a, 64, none⟩)] w fun x w' => ∃ v, x = .returned v ∧ UOwn w' w.heap.size v (tagsL t 4096) ∧ Below w.heap.size w w' := by
  obtain ⟨cg, h⟩ := h
  replace h := Hid.mk h
  go_enter Try.func42, Try.ntmps42
  go_wp2_with fail
  go_loopw [3, 9] (fun l v wr => ∃ i : Nat, v = .int .i64 i ∧ i ≤ 64 ∧ UOwn wr w.heap.size l (tagsL t (i * 64)) ∧ Below w.heap.size w wr) (fun _ v _ => 64 - (intOf v).toNat)
  case atStart => exact ⟨0, rfl, by omega, UOwn.nil _ _, Below.refl _ _⟩
  case round =>
    obtain ⟨i, rfl, hi, hO, hB⟩ := hrel
    by_cases hlt : i < 64
    · have jl : (i : Int) < 64 := by omega
      have h1 := h.out.gr hB
      have c1 := (h1.box i hlt).1
      obtain ⟨la, lc, rfl, hl⟩ := hO.form
      cases e : cg i with
      | none =>
        have hnx := tagsL_none t (i * 64) 64 (h1.zero i hlt e)
        rw [e] at c1
        simp only [ptr, Option.map_none] at c1
        replace h1 := Hid.mk h1
        replace hO := Hid.mk hO
        replace hB := Hid.mk hB
        replace hnx := Hid.mk hnx
        clear hl
        go_wp2_with fail
        go_quiet (fail)
        go_wp2_with fail
        exact ⟨⟨i + 1, by go_num, by omega, by rw [show (i + 1) * 64 = i * 64 + 64 by omega, hnx.out]; exact hO.out.below (drewN_below _ _), hB.out.trans ((drewN_below _ _).mono hB.out.size)⟩, by simp [intOf]; omega⟩
      | some k =>
        rw [e] at c1
        simp only [ptr, Option.map_some] at c1
        replace h1 := Hid.mk h1
        replace hO := Hid.mk hO
        replace hB := Hid.mk hB
        clear hl
        go_wp2_with fail
        go_quiet (fail)
        go_wp2_with fail
        go_loopw [3, 19] (fun l v wq => ∃ j : Nat, v = .int .i64 j ∧ j ≤ 64 ∧ UOwn wq w.heap.size l (tagsL t (i * 64 + j)) ∧ Below w.heap.size w wq) (fun _ v _ => 64 - (intOf v).toNat)
        case atStart => exact ⟨0, rfl, by omega, hO.out.below (drewN_below _ _), hB.out.trans ((drewN_below _ _).mono hB.out.size)⟩
        case round =>
          clear hO hB c1
          obtain ⟨j, rfl, hj, hO, hB⟩ := hrel
          obtain ⟨la, lc, rfl, hl⟩ := hO.form
          by_cases hjt : j < 64
          · have jl2 : (j : Int) < 64 := by omega
            have h2 := h.out.gr hB
            have hp := h2.page i k hlt e
            obtain ⟨c0, c1, c2, c3, c4, c5⟩ := hp.2.2.1 j hjt
            have hnx : tagsL t (i * 64 + (j + 1)) = tagsL t (i * 64 + j) ++ if plTag (t (i * 64 + j)) then [(i * 64 + j) * 16] else [] := rfl
            have hk := hp.2.1
            have hlen := tagsL_len t (i * 64 + j)
            replace h2 := Hid.mk h2
            replace hp := Hid.mk hp
            replace hO := Hid.mk hO
            replace hB := Hid.mk hB
            replace hlen := Hid.mk hlen
            clear hl
            generalize (plCap (t (i * 64 + j))).b = v1 at *
            generalize (plCap (t (i * 64 + j))).e = v2 at *
            generalize (plCap (t (i * 64 + j))).c = v3 at *
            generalize (plCap (t (i * 64 + j))).p = v4 at *
            generalize (plCap (t (i * 64 + j))).s = v5 at *
            cases e2 : plTag (t (i * 64 + j)) with
            | false =>
              rw [e2] at c0 hnx
              simp only [Bool.false_eq_true, if_false, List.append_nil] at hnx
              replace hnx := Hid.mk hnx
              go_wp2_with fail
              go_region
              go_wp2_with fail
              exact ⟨⟨j + 1, by go_num, by omega, by rw [hnx.out]; exact hO.out.below (Below.drew ((Below.refl _ _).alloc (Nat.le_refl _) _)), Below.drew (hB.out.alloc hB.out.size _)⟩, by simp [intOf]; omega⟩
            | true =>
              rw [e2] at c0 hnx
              simp only [if_true] at hnx
              replace hnx := Hid.mk hnx
              have m1 : IntKind.i64.wrap ((i : Int) * 1024) = i * 1024 := by rw [IntKind.wrap_i64]; omega
              have m2 : IntKind.i64.wrap ((j : Int) * 16) = j * 16 := by rw [IntKind.wrap_i64]; omega
              have m3 : IntKind.i64.wrap ((i : Int) * 1024 + j * 16) = (((i * 64 + j) * 16 : Nat) : Int) := by rw [IntKind.wrap_i64]; omega
              have m4 : IntKind.u64.wrap (((i * 64 + j) * 16 : Nat) : Int) = (((i * 64 + j) * 16 : Nat) : Int) := by rw [IntKind.wrap_u64]; omega
              have ey : (((i * 64 + j) * 16 : Nat) : Int) = ((i : Int) * 64 + j) * 16 := by omega
              replace ey := Hid.mk ey
              go_wp2_with fail
              go_region
              go_wp2_with (at_builtin; refine wpList_append_num rfl (.tmp 27) (.tmp 34) rfl w.heap.size (.slice la (tagsL t (i * 64 + j)).length lc) (tagsL t (i * 64 + j)) ((i * 64 + j) * 16) rfl (hO.out.below (Below.drew (((Below.refl _ _).alloc (Nat.le_refl _) _).alloc (by simp) _))) (wr.heap.size + 1) rfl (by rw [ey.out]; exact (At.next _ _ _ _).drew) (by have := hlen.out; omega) (by have := hB.out.size; simp; omega) ?_)
              intro g cap w2 hO2 hg
              have hB2 := (Below.drew ((hB.out.alloc hB.out.size _).alloc (by have := hB.out.size; simp; omega) _)).trans (Below.of_grown hg (by have := hB.out.size; simp; omega) (fun q hq => (hO.out.block q hq).1))
              replace hB2 := Hid.mk hB2
              replace hO2 := Hid.mk hO2
              clear hg
              go_wp2_with fail
              exact ⟨⟨j + 1, by go_num, by omega, by rw [hnx.out]; exact hO2.out, hB2.out⟩, by simp [intOf]; omega⟩
          · have jl2 : ¬ (j : Int) < 64 := by omega
            have : j = 64 := by omega
            subst this
            replace hO := Hid.mk hO
            replace hB := Hid.mk hB
            clear hl
            go_wp2_with fail
            exact ⟨⟨i + 1, by go_num, by omega, by rw [show (i + 1) * 64 = i * 64 + 64 by omega]; exact hO.out, hB.out⟩, by simp [intOf]; omega⟩
    · have jl : ¬ (i : Int) < 64 := by omega
      have : i = 64 := by omega
      subst this
      obtain ⟨la, lc, rfl, hl⟩ := hO.form
      replace hO := Hid.mk hO
      replace hB := Hid.mk hB
      clear hl
      go_wp2_with fail
      go_ret
      exact ⟨_, rfl, hO.out, hB.out⟩
end T
end Go.Proofs.Ythblllanofnmmaa


/-
  Stage 6, tagmem: the memories that are made; texts laid in memory.
-/
namespace Go.Proofs.Ythblllanofnmmaa
namespace T
open Go.RowKit

def str (l : List UInt8) : ByteArray := ⟨l.toArray⟩
theorem str_size (s : List UInt8) : (str s).size = s.length := by simp [str, ByteArray.size]
theorem str_at (s : List UInt8) (i : Nat) (h : i < (str s).size) (h' : i < s.length) : (str s)[i]'h = s[i] := by
  simp [str, ByteArray.getElem_eq_getElem_data]
theorem tagged_zero (w : World) : (zeroValue 63).run Try.prog w = .ok (.agg (Array.replicate 128 (.pointer none))) w := by kernel_rfl
/-- A text laid, so many letters of it. -/
def layB (b : Nat → UInt8) (addr : Nat) (l : List UInt8) : Nat → Nat → UInt8
  | 0 => b
  | k + 1 => upd (layB b addr l k) (addr + k) (l.getD k 0)
set_option maxHeartbeats 1000000 in
theorem lay_any (S : Nat → Prop) (a addr : Nat) (b : Nat → UInt8) (l : List UInt8) (w : World) (h : PgIn S w a b) (ha : addr + l.length ≤ 65536) :
    Calls Try.prog 37 #[.pointer (some ⟨a, 0, none⟩), .int .u64 addr, .string (str l)] w fun x w' => x = .returned (.tuple #[]) ∧ ∃ S', PgIn S' w' a (layB b addr l l.length) ∧ Fr S S' w w' a := by
  have ss := str_size l
  replace h := Hid.mk h
  go_enter Try.func37, Try.ntmps37
  go_wp2_with fail
  go_loopw [9] (fun i wr => ∃ j : Nat, i = .int .i64 j ∧ j ≤ l.length ∧ ∃ S', PgIn S' wr a (layB b addr l j) ∧ Fr S S' w wr a) (fun i _ => l.length - (intOf i).toNat)
  case atStart => exact ⟨0, rfl, by omega, S, h.out, Fr.refl S w a⟩
  case round =>
    obtain ⟨j, rfl, hj, S', h1, hf⟩ := hrel
    by_cases hlt : j < l.length
    · have jl : (j : Int) < l.length := by omega
      have hk := fun W q => set_any S' a (addr + j) (layB b addr l j) l[j] W q (by omega)
      have hnx : layB b addr l (j + 1) = upd (layB b addr l j) (addr + j) l[j] := by rw [layB]; simp [hlt]
      rw [← hnx, Int.natCast_add] at hk
      unfold bv at hk
      have m0 : IntKind.u64.wrap ((addr : Int) + j) = (addr : Int) + j := by rw [IntKind.wrap_u64]; omega
      have m1 : IntKind.u64.wrap (j : Int) = j := by rw [IntKind.wrap_u64]; omega
      have js : j < (str l).size := by rw [str_size]; exact hlt
      have ha := str_at l j js hlt
      generalize hb1 : layB b addr l (j + 1) = b1 at *
      replace hb1 := Hid.mk hb1
      clear hnx
      replace hf := Hid.mk hf
      replace h1 := Hid.mk h1
      go_wp2_with fail
      refine (hk _ h1.out).mono ?_
      rintro x w1 ⟨rfl, S1, h2, hf2⟩
      replace h2 := Hid.mk h2
      replace hf2 := Hid.mk hf2
      go_wp2_with fail
      exact ⟨⟨j + 1, by go_num, by omega, S1, by rw [hb1.out]; exact h2.out, hf.out.trans hf2.out⟩, by simp [intOf]; omega⟩
    · have jl : ¬ (j : Int) < l.length := by omega
      have : j = l.length := by omega
      subst this
      replace hf := Hid.mk hf
      replace h1 := Hid.mk h1
      go_wp2_with fail
      go_end0
      exact ⟨rfl, S', h1.out, hf.out⟩
theorem str_take (l : List UInt8) (n : Nat) : (str l).extract 0 n = str (l.take n) := by
  unfold str
  apply ByteArray.ext
  simp [ByteArray.data_extract, List.extract_toArray, List.extract_eq_take_drop]
set_option maxHeartbeats 1000000 in
theorem lying_any (addr : Nat) (l : List UInt8) (w : World) (ha : addr < 18446744073709551616) (hl : l.length ≤ 140737488355328) :
    Calls Try.prog 36 #[.int .u64 addr, .string (str l)] w fun x w' => x = .returned (.string (str (l.take (65536 - addr)))) ∧ w' = w := by
  have ss := str_size l
  by_cases h : 65536 ≤ addr
  · have d1 : (65536 : Int) ≤ addr := by omega
    rw [show 65536 - addr = 0 by omega, List.take_zero]
    go_enter Try.func36, Try.ntmps36
    go_wp2_with fail
    go_ret
    exact ⟨rfl, rfl⟩
  · have d1 : ¬ (65536 : Int) ≤ addr := by omega
    have e1 : str (l.take (65536 - addr)) = (str l).extract 0 (min (l.length : Int) (65536 - addr)).toNat := by
      rw [str_take]
      by_cases q : l.length ≤ 65536 - addr
      · rw [show (min (l.length : Int) (65536 - addr)).toNat = l.length by omega, List.take_of_length_le q, List.take_of_length_le (Nat.le_refl _)]
      · rw [show (min (l.length : Int) (65536 - addr)).toNat = 65536 - addr by omega]
    rw [e1]
    clear e1
    go_enter Try.func36, Try.ntmps36
    go_wp2_with fail
    go_ret
    exact ⟨rfl, rfl⟩
/-- A new memory. -/
theorem Pg.fresh (w : World) (n : Nat) (t : TypeId) (hn : 64 ≤ n) : Pg (fun _ => False) (w.alloc (.cells (Array.replicate n (.pointer none)) t)) w.heap.size (fun _ => none) (fun _ => 0) := by
  have hA := At.new w (Array.replicate n (.pointer none)) t
  refine ⟨hA.1, fun q => q, fun k q => q.elim, fun i hi => ⟨?_, hA.2.2 i⟩, fun i k _ q => by simp at q, fun _ _ _ _ _ => rfl, fun i j k _ _ q => by simp at q⟩
  rw [hA.2.1, Array.getElem?_replicate, if_pos (by omega)]
  rfl
theorem Cg.fresh (w : World) (t : TypeId) : Cg (fun _ => False) (w.alloc (.cells (Array.replicate 128 (.pointer none)) t)) w.heap.size (fun _ => none) (fun _ => none) := by
  have hA := At.new w (Array.replicate 128 (.pointer none)) t
  refine ⟨hA.1, fun q => q, fun k q => q.elim, fun i hi => ⟨?_, hA.2.2 _⟩, fun i k _ q => by simp at q, fun _ _ _ _ _ => rfl, fun i j k _ _ q => by simp at q⟩
  rw [hA.2.1, Array.getElem?_replicate, if_pos (by omega)]
  rfl
theorem TgIn.fresh (w : World) (t : TypeId) : TgIn (fun k => k = w.heap.size) (w.alloc (.cells (Array.replicate 128 (.pointer none)) t)) w.heap.size (fun _ => 0) (fun _ => none) :=
  ⟨fun _ => False, fun _ => False, ⟨_, Pg.fresh w 128 t (by omega)⟩, ⟨_, Cg.fresh w t⟩, fun _ q => q.elim, fun k => by simp⟩
set_option maxHeartbeats 1000000 in
theorem newTagged_none (w : World) :
    Calls Try.prog 5 #[.agg #[.slice none 0 0, .slice none 0 0, .slice none 0 0, .int .i64 0]] w fun x w' => x = .returned (.pointer (some ⟨w.heap.size + 1, 0, none⟩)) ∧ TgIn (fun k => k = w.heap.size + 1) w' (w.heap.size + 1) (fun _ => 0) (fun _ => none) ∧ Below w.heap.size w w' := by
  have tz := tagged_zero
  have hT := TgIn.fresh (w.alloc (.cells #[.slice none 0 0, .slice none 0 0, .slice none 0 0, .int .i64 0] 30)) 63
  rw [World.size_alloc] at hT
  replace hT := Hid.mk hT
  go_enter Try.func5, Try.ntmps5
  go_wp2_with fail
  go_loopw [11] (fun i wr => i = .int .i64 0 ∧ wr = (w.alloc (.cells #[.slice none 0 0, .slice none 0 0, .slice none 0 0, .int .i64 0] 30)).alloc (.cells (Array.replicate 128 (.pointer none)) 63)) (fun _ _ => 0)
  case atStart => exact ⟨rfl, rfl⟩
  case round =>
    obtain ⟨rfl, rfl⟩ := hrel
    go_wp2_with fail
    go_ret
    exact ⟨rfl, hT.out, ((Below.refl _ w).alloc (Nat.le_refl _) _).alloc (by simp) _⟩
end T
end Go.Proofs.Ythblllanofnmmaa
