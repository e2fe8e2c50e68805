import Derived.Test.YtdmkedpnkejpbaaDoorP04
import Derived.Deep.AppendLies
/-
  Stage 3, instr: rows of instructions and of bytes, that came in or that the call owns. No Go in sight.
-/
namespace Go.Proofs.YtdmkedpnkejpbaaDoor
open Go.RowKit

/-- An instruction's five numbers. -/
structure Ins where
  op : Int
  a : Int
  b : Int
  c : Int
  m : Int
def Ins.vals (k : Ins) : List Value := [.int .u8 k.op, .int .i64 k.a, .int .i64 k.b, .int .i64 k.c, .int .i64 k.m]
def Ins.agg (k : Ins) : Value := .agg #[.int .u8 k.op, .int .i64 k.a, .int .i64 k.b, .int .i64 k.c, .int .i64 k.m]
def flat (L : List Ins) : List Value := L.flatMap Ins.vals
theorem flat_snoc (L : List Ins) (k : Ins) : flat (L ++ [k]) = flat L ++ k.vals := by simp [flat]
theorem flat_app (L M : List Ins) : flat (L ++ M) = flat L ++ flat M := by simp [flat]
theorem flat_length (L : List Ins) : (flat L).length = L.length * 5 := by
  induction L with
  | nil => rfl
  | cons a l ih => simp only [flat, List.flatMap_cons, List.length_append] at ih ⊢; rw [ih]; simp [Ins.vals]; omega
theorem flat_get (L : List Ins) (i j : Nat) (hi : i < L.length) (hj : j < 5) : (flat L)[i * 5 + j]? = (L[i]).vals[j]? := by
  induction L generalizing i with
  | nil => simp at hi
  | cons a l ih =>
    have e : flat (a :: l) = a.vals ++ flat l := by simp [flat]
    rw [e]
    cases i with
    | zero => rw [List.getElem?_append_left (by simp [Ins.vals]; omega)]; simp
    | succ i =>
      rw [List.getElem?_append_right (by simp [Ins.vals]; omega)]
      have : (i + 1) * 5 + j - a.vals.length = i * 5 + j := by simp [Ins.vals]; omega
      rw [this, ih i (by simpa using hi)]
      simp
/-- The five cells of an instruction. -/
def Five (w : World) (b off : Nat) (k : Ins) : Prop :=
  w.cell? ⟨b, off, none⟩ = some (.int .u8 k.op) ∧ w.cell? ⟨b, off + 1, none⟩ = some (.int .i64 k.a) ∧ w.cell? ⟨b, off + 1 + 1, none⟩ = some (.int .i64 k.b) ∧ w.cell? ⟨b, off + 1 + 1 + 1, none⟩ = some (.int .i64 k.c) ∧ w.cell? ⟨b, off + 1 + 1 + 1 + 1, none⟩ = some (.int .i64 k.m)
theorem Five.below {w w1 : World} {B b off : Nat} {k : Ins} (h : Five w b off k) (hb : Below B w w1) (hlt : b < B) : Five w1 b off k :=
  ⟨(hb.cell (p := ⟨b, _, none⟩) hlt).trans h.1, (hb.cell (p := ⟨b, _, none⟩) hlt).trans h.2.1, (hb.cell (p := ⟨b, _, none⟩) hlt).trans h.2.2.1, (hb.cell (p := ⟨b, _, none⟩) hlt).trans h.2.2.2.1, (hb.cell (p := ⟨b, _, none⟩) hlt).trans h.2.2.2.2⟩
/-- A slice of instructions, below block 'B', that can be read. -/
def LIn (B : Nat) (w : World) (a : Option Addr) (L : List Ins) : Prop := ∀ i (h : i < L.length), ∃ b off : Nat, a = some ⟨b, off, none⟩ ∧ b < B ∧ b < w.heap.size ∧ Five w b (off + i * 5) L[i]
theorem LIn.below {B : Nat} {w w1 : World} {a : Option Addr} {L : List Ins} (h : LIn B w a L) (hb : Below B w w1) : LIn B w1 a L := fun i hi => by
  obtain ⟨b, off, ha, h1, h2, h3⟩ := h i hi
  exact ⟨b, off, ha, h1, Nat.lt_of_lt_of_le h2 hb.size, h3.below hb h1⟩
theorem LIn.mono {B B' : Nat} {w : World} {a : Option Addr} {L : List Ins} (h : LIn B w a L) (hb : B ≤ B') : LIn B' w a L := fun i hi => by
  obtain ⟨b, off, ha, h1, h2, h3⟩ := h i hi
  exact ⟨b, off, ha, Nat.lt_of_lt_of_le h1 hb, h2, h3⟩
theorem LIn.nil (B : Nat) (w : World) (a : Option Addr) : LIn B w a [] := fun i hi => by simp at hi

theorem Below.of_grown {B : Nat} {w w1 : World} {row : Option Nat} (h : w.grownBy w1 row) (hB : B ≤ w.heap.size) (hr : ∀ g, row = some g → B ≤ g) : Below B w w1 :=
  ⟨h.os, h.tape, h.output, h.size, fun k hk => h.block k (Nat.lt_of_lt_of_le hk hB) (fun e => by have := hr k e.symm; omega)⟩
/-- What a row that the call owns is, behind other doings. -/
theorem own_below {w w1 : World} {base e size n : Nat} {v : Value} {xs : List Value} (h : w.ownsRow base e size v n xs) (hb : Below w.heap.size w w1) : w1.ownsRow base e size v n xs := by
  refine ⟨h.1, ?_⟩
  rcases h.2 with h2 | ⟨g, cap, cur, hv, hbg, hg, rest⟩
  · exact .inl h2
  · have hlt : g < w.heap.size := (Array.getElem?_eq_some_iff.1 hg).1
    exact .inr ⟨g, cap, cur, hv, hbg, (hb.block g hlt).trans hg, rest⟩
theorem own_drew {w : World} {base e size n : Nat} {v : Value} {xs : List Value} (h : w.ownsRow base e size v n xs) : w.drew.ownsRow base e size v n xs := h
theorem own_grown {w w1 : World} {base e size n : Nat} {v : Value} {xs : List Value} {row : Option Nat} (h : w.ownsRow base e size v n xs) (hg : w.grownBy w1 row) (hne : ∀ g, v.ownBlock = some g → row ≠ some g) : w1.ownsRow base e size v n xs := by
  refine ⟨h.1, ?_⟩
  rcases h.2 with h2 | ⟨g, cap, cur, hv, hbg, hh, rest⟩
  · exact .inl h2
  · have hlt : g < w.heap.size := (Array.getElem?_eq_some_iff.1 hh).1
    refine .inr ⟨g, cap, cur, hv, hbg, (hg.block g hlt ?_).trans hh, rest⟩
    intro e
    exact hne g (by rw [hv]; rfl) e.symm
theorem own_block {w : World} {base e size n : Nat} {v : Value} {xs : List Value} (h : w.ownsRow base e size v n xs) : ∀ g, v.ownBlock = some g → base ≤ g ∧ g < w.heap.size := by
  intro g hg
  rcases h.2 with ⟨rfl, _⟩ | ⟨g', cap, cur, rfl, hbg, hh, rest⟩
  · cases hg
  · have : g' = g := by simpa [Value.ownBlock] using hg
    subst this
    exact ⟨hbg, (Array.getElem?_eq_some_iff.1 hh).1⟩
/-- A list of instructions that the call owns. -/
def LOwn (w : World) (base : Nat) (v : Value) (L : List Ins) : Prop := w.ownsRow base 74 5 v L.length (flat L)
theorem LOwn.nil (w : World) (base : Nat) : LOwn w base (.slice none 0 0) [] := ⟨rfl, .inl ⟨rfl, rfl⟩⟩
theorem LOwn.form {w : World} {base : Nat} {v : Value} {L : List Ins} (h : LOwn w base v L) : ∃ a cap, v = .slice a L.length cap ∧ LIn w.heap.size w a L := by
  rcases h.2 with ⟨rfl, h0⟩ | ⟨g, cap, cur, rfl, hbg, hh, rest⟩
  · refine ⟨none, 0, by rw [h0], fun i hi => ?_⟩
    omega
  · refine ⟨_, cap, rfl, fun i hi => ⟨g, 0, rfl, (Array.getElem?_eq_some_iff.1 hh).1, (Array.getElem?_eq_some_iff.1 hh).1, ?_⟩⟩
    have hc : ∀ j, j < 5 → w.cell? ⟨g, i * 5 + j, none⟩ = (L[i]).vals[j]? := fun j hj => by
      have hc := World.ownsRow.cells h (g := g) rfl (i * 5 + j) ((L[i]).vals[j]'(by simpa [Ins.vals] using hj)) (by rw [flat_get L i j hi hj]; simp)
      have ea : (⟨g, 0, none⟩ : Addr).add (i * 5 + j) = ⟨g, i * 5 + j, none⟩ := by generalize i * 5 + j = m; by_cases h0 : m = 0 <;> simp [Addr.add, h0]
      rw [ea] at hc
      rw [hc]; simp
    rw [Nat.zero_add]
    exact ⟨hc 0 (by omega), hc 1 (by omega), hc 2 (by omega), hc 3 (by omega), hc 4 (by omega)⟩
/-- A row of bytes that the call owns. -/
def byteV (b : UInt8) : Value := .int .u8 b.toNat
def BOwn (w : World) (base : Nat) (v : Value) (B : List UInt8) : Prop := w.ownsRow base 5 1 v B.length (B.map byteV)
/-- Are two rows the same? -/
def Ins.eqB (k l : Ins) : Bool := decide (k.op = l.op) && decide (k.a = l.a) && decide (k.b = l.b) && decide (k.c = l.c) && decide (k.m = l.m)
theorem Ins.eqB_iff (k l : Ins) : k.eqB l = true ↔ k = l := by
  cases k; cases l
  simp [Ins.eqB, and_assoc]
def sameB : List Ins → List Ins → Bool
  | [], [] => true
  | k :: L, l :: M => k.eqB l && sameB L M
  | _, _ => false
theorem sameB_iff : ∀ L M : List Ins, sameB L M = true ↔ L = M
  | [], [] => by simp [sameB]
  | [], _ :: _ => by simp [sameB]
  | _ :: _, [] => by simp [sameB]
  | k :: L, l :: M => by simp [sameB, Ins.eqB_iff, sameB_iff L M]
theorem sameB_eq {L M : List Ins} (h : L = M) : sameB L M = true := (sameB_iff L M).mpr h
theorem sameB_ne {L M : List Ins} (h : L ≠ M) : sameB L M = false := by
  cases e : sameB L M with
  | false => rfl
  | true => exact absurd ((sameB_iff L M).mp e) h
end Go.Proofs.YtdmkedpnkejpbaaDoor


/-
  Stage 3, instr: appendInst.
-/
namespace Go.Proofs.YtdmkedpnkejpbaaDoor
open Go.RowKit

theorem infoByte : (Tryd.prog.info? 5).map (fun i => (i.zero, i.size, i.bytes)) = some (some (.int .u8 0), 1, 1) := by kernel_rfl
theorem info_parts {t : TypeId} {z : Value} {s b : Nat} (h : (Tryd.prog.info? t).map (fun i => (i.zero, i.size, i.bytes)) = some (some z, s, b)) :
    ∃ i, Tryd.prog.info? t = some i ∧ i.zero = some z ∧ i.size = s ∧ i.bytes = b := by
  obtain ⟨i, hi, he⟩ := Option.map_eq_some_iff.1 h
  simp only [Prod.mk.injEq] at he
  exact ⟨i, hi, he.1, he.2.1, he.2.2⟩
/-- An instruction's bytes. -/
def bytesI (k : Ins) : List Int := [k.op, k.a % 256, k.b % 256, k.c % 256, k.m % 256, k.m % 4294967296 / 256 % 256, k.m % 4294967296 / 65536 % 256, k.m % 4294967296 / 16777216]
def bytesOf (k : Ins) : List UInt8 := (bytesI k).map fun n => UInt8.ofNat n.toNat
theorem byteV_of (n : Int) (h0 : 0 ≤ n) (h1 : n < 256) : byteV (UInt8.ofNat n.toNat) = .int .u8 n := by
  unfold byteV
  rw [UInt8.toNat_ofNat']
  congr 1
  omega
theorem bytes_vals (k : Ins) (h0 : 0 ≤ k.op) (h1 : k.op < 256) : (bytesOf k).map byteV = (bytesI k).map (Value.int .u8) := by
  simp only [bytesOf, bytesI, List.map_cons, List.map_nil]
  rw [byteV_of _ h0 h1, byteV_of _ (by omega) (by omega), byteV_of _ (by omega) (by omega), byteV_of _ (by omega) (by omega), byteV_of _ (by omega) (by omega), byteV_of _ (by omega) (by omega), byteV_of _ (by omega) (by omega), byteV_of _ (by omega) (by omega)]
theorem bytesOf_length (k : Ins) : (bytesOf k).length = 8 := rfl
theorem size_one (w : World) (o : Obj) : (w.alloc o).heap.size = w.heap.size + 1 := World.size_alloc w o
theorem news_at {w : World} {X : Nat} {cs : List Value} (h : At w X cs.toArray) : ∀ j u, cs[j]? = some u → w.cell? ((⟨X, 0, none⟩ : Addr).add j) = some u := by
  intro j u hj
  have ea : (⟨X, 0, none⟩ : Addr).add j = ⟨X, j, none⟩ := by by_cases h0 : j = 0 <;> simp [Addr.add, h0]
  rw [ea, h.2.1]
  simpa using hj
theorem wpList_append_bytes {ops : Array Oper} {rest : List Oper} {o : Oper} {a : Act} {Q : Exit → Act → World → Prop} {w : World} (hgd : o.guard = none) (s x : Operand)
    (ho : o.op = .call { callee := .builtin .append, args := #[s, x], argTypes := #[68, 68] })
    (base : Nat) (v : Value) (B news : List UInt8) (hs : a.eval s = v) (hB : BOwn w base v B)
    (X m : Nat) (hx : a.eval x = .slice (some ⟨X, 0, none⟩) m m) (hX : At w X (news.map byteV).toArray) (hm : news.length = m) (hm0 : 0 < m) (hlen : B.length + m ≤ 140737488355328) (hbase : base ≤ w.heap.size)
    (h : ∀ g cap w', BOwn w' base (.slice (some ⟨g, 0, none⟩) (B.length + m) cap) (B ++ news) → w.grownBy w' v.ownBlock → wpList Tryd.prog ops Q rest (a.put o.dst (.slice (some ⟨g, 0, none⟩) (B.length + m) cap)) w') :
    wpList Tryd.prog ops Q (o :: rest) a w := by
  obtain ⟨i0, hi, hz0, hz1, hz2⟩ := info_parts infoByte
  refine wpList_append_lies _ hgd s x 68 ho base 5 i0 (.int .u8 0) 1 1 Tryd.underlying68 hi hz0 hz1 hz2 rfl (by decide)
    v B.length (B.map byteV) hs hB ⟨X, 0, none⟩ m m (news.map byteV) hx (by simp [hm]) (news_at hX) (fun u hu => by obtain ⟨b, _, rfl⟩ := List.mem_map.1 hu; rfl) hm0 (by unfold maxLen; omega) (by omega) hbase _ rfl ?_
  intro g cap w' h1 h2 _ _
  refine h g cap w' ?_ h2
  unfold BOwn
  rw [List.length_append, hm, List.map_append]
  exact h1
set_option maxHeartbeats 1000000 in
theorem appendInst_any (k : Ins) (n cap : Nat) (a : Option Addr) (base : Nat) (B : List UInt8) (w : World) (hB : BOwn w base (.slice a n cap) B) (hb : base ≤ w.heap.size) (h0 : 0 ≤ k.op) (h1 : k.op < 256) (hlen : B.length + 8 ≤ 140737488355328) :
    Calls Tryd.prog 89 #[.slice a n cap, .agg #[.int .u8 k.op, .int .i64 k.a, .int .i64 k.b, .int .i64 k.c, .int .i64 k.m]] w fun x w' => ∃ g c, x = .returned (.slice (some ⟨g, 0, none⟩) (B.length + 8) c) ∧ BOwn w' base (.slice (some ⟨g, 0, none⟩) (B.length + 8) c) (B ++ bytesOf k) ∧ Below base w w' := by
  have hv := Hid.mk (bytes_vals k h0 h1)
  have hB2 : ∀ o o', BOwn ((w.alloc o).alloc o') base (.slice a n cap) B := fun o o' => own_below hB (((Gr.refl w).alloc o).alloc o').below
  replace hB := Hid.mk hB
  replace hB2 := Hid.mk hB2
  replace hlen := Hid.mk hlen
  go_enter Tryd.func89, Tryd.ntmps89
  go_wp2_with (at_builtin; refine wpList_append_bytes rfl (.tmp 9) (.tmp 32) rfl base (.slice a n cap) B (bytesOf k) rfl (hB2.out _ _) (w.heap.size + 1) 8 rfl (by rw [hv.out]; exact (size_one w _ ▸ At.new (w.alloc _) _ _ : At _ (w.heap.size + 1) _)) rfl (by omega) hlen.out (by simp; omega) ?_)
  intro g c w' hO hg
  go_wp2_with fail
  go_ret
  refine ⟨g, c, rfl, hO, ((((Gr.refl w).alloc _).alloc _).below.mono hb).trans (Below.of_grown hg (by simp; omega) (fun q hq => (own_block hB.out q hq).1))⟩
end Go.Proofs.YtdmkedpnkejpbaaDoor
