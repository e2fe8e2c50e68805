import Derived.Test.YthblllanofnmmaaP17
import Derived.Test.YthblllanofnmmaaIOpen
import Derived.Deep.Slices
import Derived.SizedLaws
/-
  Stage 3, instr: Encode.
-/
namespace Go.Proofs.Ythblllanofnmmaa
open Go.RowKit

def Ins.right (k : Ins) : Int := rightF k.op k.a k.b k.c k.m
/-- What Encode answers of the instructions that are left. -/
def encF : List Ins → Nat → List UInt8 → List UInt8 × Int × Int
  | [], _, B => (B, 0, 0)
  | k :: r, j, B => if k.right = 0 then encF r (j + 1) (B ++ bytesOf k) else ([], k.right, j)
theorem enc_next {L : List Ins} {j : Nat} {B : List UInt8} (h : j < L.length) (hr : L[j].right = 0) : encF (L.drop j) j B = encF (L.drop (j + 1)) (j + 1) (B ++ bytesOf L[j]) := by
  rw [List.drop_eq_getElem_cons h, encF, if_pos hr]
theorem enc_stop {L : List Ins} {j : Nat} {B : List UInt8} (h : j < L.length) (hr : ¬ L[j].right = 0) : encF (L.drop j) j B = ([], L[j].right, (j : Int)) := by
  rw [List.drop_eq_getElem_cons h, encF, if_neg hr]
theorem enc_end {L : List Ins} {j : Nat} {B : List UInt8} (h : ¬ j < L.length) : encF (L.drop j) j B = (B, 0, 0) := by
  have : L.drop j = [] := by rw [List.drop_eq_nil_iff]; omega
  rw [this]; rfl
/-- An operation's number is one of a byte. -/
def OpsIn (L : List Ins) : Prop := ∀ k ∈ L, 0 ≤ k.op ∧ k.op < 256
/-- So many instructions as memory can hold. -/
def maxI : Nat := 3518437208883
theorem make_bytes (w : World) (n : Nat) (hn : n ≤ maxI) : ∃ Z, (Instr.makeSlice 92 (.int .i64 0) (.int .i64 ((n : Int) * 8))).run Try.prog w = .ok (.slice (some ⟨w.heap.size, 0, none⟩) 0 (n * 8)) (w.alloc (.cells Z 5)) ∧
    BOwn (w.alloc (.cells Z 5)) w.heap.size (.slice (some ⟨w.heap.size, 0, none⟩) 0 (n * 8)) [] := by
  obtain ⟨i0, hi, hz0, hz1, hz2⟩ := info_parts infoByte
  unfold maxI at hn
  have h := run_make (P := Try.prog) w 92 5 i0 (.int .u8 0) Try.underlying92 hi hz0 .i64 .i64 0 ((n : Int) * 8) (by omega) (by omega) (by rw [hz2]; omega) (by omega)
  have e : ((n : Int) * 8).toNat = n * 8 := by omega
  rw [e, hz1] at h
  refine ⟨_, h, ?_⟩
  exact World.ownsRow_made w _ (n * 8) (Nat.le_refl _) (by unfold maxLen; omega) (size_madeCells _ _)
theorem string_of {w : World} {base g cap : Nat} {B : List UInt8} (h : BOwn w base (.slice (some ⟨g, 0, none⟩) B.length cap) B) :
    (convert 92 9 (.slice (some ⟨g, 0, none⟩) B.length cap)).run Try.prog w = .ok (.string (str B)) w := by
  refine run_convert_bytes_back (P := Try.prog) w 92 9 5 ⟨g, 0, none⟩ cap B Try.underlying92 Try.underlying5 Try.underlying9 fun j hj => ?_
  exact World.ownsRow.cells h (g := g) rfl j (byteV B[j]) (by simp [hj])
end Go.Proofs.Ythblllanofnmmaa


/-
  Stage 3, instr: a row of instructions that came in, opened; how long it may be.
-/
namespace Go.Proofs.Ythblllanofnmmaa
open Go.ChangeShapes Go.WideShapes Go.ChangeAt Go.RowKit Go.Deep

theorem five_list {α : Type} {cs : List α} (h : cs.length = 5) : ∃ c0 c1 c2 c3 c4, cs = [c0, c1, c2, c3, c4] := by
  match cs, h with
  | [c0, c1, c2, c3, c4], _ => exact ⟨c0, c1, c2, c3, c4, rfl⟩
theorem bulk_one {H : Type} (d : DataW H) : 1 ≤ Rows.uptoBulk d := by
  cases d with
  | lit l => cases l <;> simp [Rows.uptoBulk]
  | _ => simp [Rows.uptoBulk]
theorem bulk_len {H : Type} (l : List (DataW H)) : l.length ≤ Rows.uptoBulkAll l := by
  induction l with
  | nil => simp [Rows.uptoBulkAll]
  | cons x r ih => have := bulk_one x; simp only [Rows.uptoBulkAll, List.length_cons]; omega
theorem trod_inst {H : Type} {enc : TypeId × Value → H} {W : World} {b0 n : Nat} {spare : Nat → Bool} {held : Bool} {cs : List Value} {x : DataW H × List MemPlace}
    (hf : DataW.trod enc Try.prog W b0 spare held n 151 cs = some x) : ∃ k : Ins, cs = k.vals ∧ (0 ≤ k.op ∧ k.op < 256) ∧ 6 ≤ Rows.uptoBulk x.1 := by
  have hs := Try.underlying151
  obtain ⟨xs, m, _, hxx, hcl, hl, hx⟩ := DataW.trod_struct hs hf
  obtain ⟨c0, c1, c2, c3, c4, rfl⟩ := five_list (hcl.trans cellsInst)
  have hbk : 6 ≤ Rows.uptoBulk x.1 := by
    rw [hxx]
    have := bulk_len (xs.map (·.1))
    rw [List.length_map, hl] at this
    have h5 : 5 ≤ Rows.uptoBulkAll (xs.map (·.1)) := this
    simp only [Rows.uptoBulk]
    omega
  have at_ : ∀ i, i < 5 → ∃ y, xs[i]? = some y := by
    intro i hi
    have : i < xs.length := by rw [hl]; simpa using hi
    exact ⟨xs[i], by simp [this]⟩
  have k1 : Try.prog.cellsOf 149 = 1 := by kernel_rfl
  have k2 : Try.prog.cellsOf 3 = 1 := by kernel_rfl
  obtain ⟨y0, t0⟩ := at_ 0 (by omega)
  rw [← hx 0 _ rfl] at t0
  obtain ⟨y1, t1⟩ := at_ 1 (by omega)
  rw [← hx 1 _ rfl] at t1
  obtain ⟨y2, t2⟩ := at_ 2 (by omega)
  rw [← hx 2 _ rfl] at t2
  obtain ⟨y3, t3⟩ := at_ 3 (by omega)
  rw [← hx 3 _ rfl] at t3
  obtain ⟨y4, t4⟩ := at_ 4 (by omega)
  rw [← hx 4 _ rfl] at t4
  obtain ⟨op, e0, _, w0⟩ := DataW.trod_int Try.underlying149 t0
  obtain ⟨a, e1, _, _⟩ := DataW.trod_int Try.underlying3 t1
  obtain ⟨b, e2, _, _⟩ := DataW.trod_int Try.underlying3 t2
  obtain ⟨c, e3, _, _⟩ := DataW.trod_int Try.underlying3 t3
  obtain ⟨m, e4, _, _⟩ := DataW.trod_int Try.underlying3 t4
  simp [k1, k2] at e0 e1 e2 e3 e4
  subst e0 e1 e2 e3 e4
  exact ⟨⟨op, a, b, c, m⟩, rfl, bd_u8 w0, hbk⟩
theorem addr_add (b off k : Nat) : (⟨b, off, none⟩ : Addr).add k = ⟨b, off + k, none⟩ := by by_cases h : k = 0 <;> simp [Addr.add, h]
theorem no_spot {W : World} {a : Addr} {v : Value} {r : List Value} {n : Nat} (h : W.cells? 0 (a.add (0 * 5)) n = some (v :: r)) : a.spot = none := by
  obtain ⟨_, hl, hc⟩ := World.cells?_some h
  have c0 := hc 0 (by rw [← hl]; simp)
  simp only [Nat.zero_mul, Addr.add, if_true] at c0
  exact World.cell?_spot (c0.trans rfl)
theorem five_cells {W : World} {a : Addr} {i : Nat} {k : Ins} (hs : a.spot = none) (h : W.cells? 0 (a.add (i * 5)) 5 = some k.vals) :
    ∃ b off, a = ⟨b, off, none⟩ ∧ b < W.heap.size ∧ Five W b (off + i * 5) k := by
  obtain ⟨_, _, hc⟩ := World.cells?_some h
  have c0 := hc 0 (by omega)
  have c1 := hc 1 (by omega)
  have c2 := hc 2 (by omega)
  have c3 := hc 3 (by omega)
  have c4 := hc 4 (by omega)
  obtain ⟨b, off, spot⟩ := a
  obtain rfl : spot = none := hs
  rw [addr_add, addr_add] at c0 c1 c2 c3 c4
  have hlt := World.block_lt_of_cell? W _ (c0.trans rfl)
  exact ⟨b, off, rfl, hlt, c0, c1, c2, c3, c4⟩
theorem choose_list {α : Type} (p : Nat → α → Prop) : ∀ n, (∀ i, i < n → ∃ k, p i k) → ∃ L : List α, L.length = n ∧ ∀ i (h : i < L.length), p i L[i]
  | 0, _ => ⟨[], rfl, fun i h => by simp at h⟩
  | n + 1, h => by
    obtain ⟨L, hl, hL⟩ := choose_list p n (fun i hi => h i (by omega))
    obtain ⟨k, hk⟩ := h n (by omega)
    refine ⟨L ++ [k], by simp [hl], fun i hi => ?_⟩
    by_cases hin : i < L.length
    · rw [List.getElem_append_left hin]; exact hL i hin
    · have : i = n := by simp at hi; omega
      subst this
      rw [List.getElem_append_right (by omega)]
      simpa [hl] using hk
/-- What a row that came in reads as: so many elements. -/
def Long {H : Type} (d : DataW H) (n : Nat) : Prop := (d = .nil ∧ n = 0) ∨ ∃ elems spare, d = .slice elems spare ∧ elems.length = n ∧ ∀ e ∈ elems, 6 ≤ Rows.uptoBulk e
theorem open_insts {H : Type} {enc : TypeId × Value → H} {W : World} {spare : Nat → Bool} {held : Bool} {a : Option Addr} {len cap : Nat} {d : DataW H} {ps : List MemPlace}
    (h : DataW.Trod enc Try.prog W 0 spare held 141 (.slice a len cap) d ps) : ∃ L : List Ins, L.length = len ∧ LIn W.heap.size W a L ∧ OpsIn L ∧ Long d len := by
  obtain ⟨fuel, hf⟩ := h
  rcases open_slice Try.underlying141 hf with ⟨hcs, hx⟩ | ⟨x, l, c, m, n, D, Pl, hcs, _, hl, hm, hmm, hx2, hx⟩
  · simp [Value.cells] at hcs
    obtain ⟨rfl, rfl, rfl⟩ := hcs
    simp only [Prod.mk.injEq] at hx
    exact ⟨[], rfl, LIn.nil _ _ _, fun k hk => by simp at hk, .inl ⟨hx.1, rfl⟩⟩
  · simp [Value.cells] at hcs
    obtain ⟨rfl, rfl, rfl⟩ := hcs
    have hlm : len ≤ m := by rw [hmm]; split <;> omega
    have hk : ∀ i, i < len → ∃ k : Ins, W.cells? 0 (x.add (i * 5)) 5 = some k.vals ∧ (0 ≤ k.op ∧ k.op < 256) ∧ 6 ≤ Rows.uptoBulk (D i) := fun i hi => by
      obtain ⟨cs', e1, e2⟩ := hx i (by omega)
      rw [cellsInst] at e1
      obtain ⟨k, rfl, r, r2⟩ := trod_inst e2
      exact ⟨k, e1, r, r2⟩
    obtain ⟨L, hL, hp⟩ := choose_list _ _ hk
    simp only [Prod.mk.injEq] at hx2
    refine ⟨L, hL, fun i hi => ?_, fun k hk => ?_, .inr ⟨_, _, hx2.1, by simp, fun e he => ?_⟩⟩
    · have h0 : 0 < L.length := by omega
      have hs : x.spot = none := no_spot (hp 0 h0).1
      obtain ⟨b, off, rfl, hb, h5⟩ := five_cells hs (hp i hi).1
      exact ⟨b, off, rfl, hb, hb, h5⟩
    · obtain ⟨i, hi, rfl⟩ := List.getElem_of_mem hk
      exact (hp i hi).2.1
    · obtain ⟨i, hi, rfl⟩ := List.mem_map.1 he
      obtain ⟨k, _, _, r⟩ := hk i (by simpa using hi)
      exact r
/-- How long it may be: by the bulk, by the reach. -/
theorem bulk_six {H : Type} (l : List (DataW H)) (h : ∀ e ∈ l, 6 ≤ Rows.uptoBulk e) : 6 * l.length ≤ Rows.uptoBulkAll l := by
  induction l with
  | nil => simp
  | cons x r ih => have := h x (by simp); have := ih (fun e he => h e (by simp [he])); simp only [Rows.uptoBulkAll, List.length_cons]; omega
theorem bulk_long {H : Type} {d : DataW H} {n : Nat} (h : Long d n) : 6 * n ≤ Rows.uptoBulk d := by
  rcases h with ⟨_, rfl⟩ | ⟨e, s, rfl, rfl, he⟩
  · omega
  · have := bulk_six e he; simp only [Rows.uptoBulk]; omega
theorem bulk_str {H : Type} {d : DataW H} {s : List UInt8} (h : d = .lit (.string s)) : s.length ≤ Rows.uptoBulk d := by
  subst h; simp [Rows.uptoBulk]
theorem bulk_in {H : Type} {l : List (DataW H)} (hk : Rows.uptoSmall H l = true) : ∀ d ∈ l, Rows.uptoBulk d ≤ 1048576 := by
  have h : Rows.uptoBulkAll l ≤ 1048576 := of_decide_eq_true hk
  clear hk
  intro d hd
  induction l with
  | nil => simp at hd
  | cons x r ih =>
    simp only [Rows.uptoBulkAll] at h
    rcases List.mem_cons.1 hd with rfl | hd
    · omega
    · exact ih (by omega) hd
end Go.Proofs.Ythblllanofnmmaa
