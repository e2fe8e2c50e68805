import Derived.Test.YtmmakknhaacplaaGreatDoorP23
import Derived.Test.YtmmakknhaacplaaGreatDoorP14
/-
  Stage 3, instr: 'made': instructions of raw numbers.
-/
namespace Go.Proofs.YtmmakknhaacplaaGreatDoor
open Go.RowKit

theorem infoOp : (Tryz.prog.info? 77).map (fun i => (i.zero, i.size, i.bytes)) = some (some (.int .u8 0), 1, 1) := by kernel_rfl
def OOwn (w : World) (base : Nat) (v : Value) (O : List Int) : Prop := w.ownsRow base 77 1 v O.length (O.map (Value.int .u8))
/-- The operations below a number. -/
def opsL (n : Nat) : List Int := ((List.range n).filter fun k : Nat => !(nameOf (k : Int)).isEmpty).map fun k : Nat => (k : Int)
theorem opsL_next (n : Nat) (h : (nameOf n).isEmpty = false) : opsL (n + 1) = opsL n ++ [(n : Int)] := by
  simp [opsL, List.range_succ, List.filter_append, h]
theorem opsL_same (n : Nat) (h : (nameOf n).isEmpty = true) : opsL (n + 1) = opsL n := by
  simp [opsL, List.range_succ, List.filter_append, h]
theorem opsL_len (n : Nat) : (opsL n).length ≤ n := by
  unfold opsL
  rw [List.length_map]
  exact Nat.le_trans (List.length_filter_le _ _) (by simp)
theorem opsL_all : (opsL 256).length = 52 := by kernel_rfl
/-- The operation that a raw number picks. -/
def opK (k : Int) : Int := (opsL 256).getD (pickF k 52).toNat 0
theorem opK_in (k : Int) : (0 ≤ opK k ∧ opK k < 256) ∧ nameOf (opK k) ≠ [] := by
  have h : (opsL 256).all (fun o => decide (0 ≤ o) && decide (o < 256) && !(nameOf o).isEmpty) = true := by kernel_rfl
  have r := pickF_range k 52 (by omega)
  have hl : (pickF k 52).toNat < (opsL 256).length := by rw [opsL_all]; omega
  have hm : opK k ∈ opsL 256 := by
    unfold opK
    rw [List.getD_eq_getElem?_getD, List.getElem?_eq_getElem hl]
    exact List.getElem_mem hl
  have := List.all_eq_true.1 h _ hm
  simp only [Bool.and_eq_true, decide_eq_true_eq, Bool.not_eq_true'] at this
  exact ⟨this.1, by simpa using this.2⟩
def madeR (r : Ins) : Ins := madeF r (opK r.op)
theorem madeR_right (r : Ins) : (madeR r).right = 0 := made_right r _ (opK_in r.op).1.2 (opK_in r.op).2
theorem madeR_op (r : Ins) : 0 ≤ (madeR r).op ∧ (madeR r).op < 256 := by unfold madeR; rw [made_op]; exact (opK_in r.op).1
theorem made_allR (R : List Ins) : AllR (R.map madeR) := fun k hk => by
  obtain ⟨r, _, rfl⟩ := List.mem_map.1 hk; exact madeR_right r
theorem made_ops (R : List Ins) : OpsIn (R.map madeR) := fun k hk => by
  obtain ⟨r, _, rfl⟩ := List.mem_map.1 hk; exact madeR_op r
/-- Raw numbers that came in. -/
def FiveR (w : World) (b off : Nat) (k : Ins) : Prop :=
  w.cell? ⟨b, off, none⟩ = some (.int .i64 k.op) ∧ w.cell? ⟨b, off + 1, none⟩ = some (.int .i64 k.a) ∧ w.cell? ⟨b, off + 1 + 1, none⟩ = some (.int .i64 k.b) ∧ w.cell? ⟨b, off + 1 + 1 + 1, none⟩ = some (.int .i64 k.c) ∧ w.cell? ⟨b, off + 1 + 1 + 1 + 1, none⟩ = some (.int .i64 k.m)
def RawIn (B : Nat) (w : World) (a : Option Addr) (R : List Ins) : Prop := ∀ i (h : i < R.length), ∃ b off : Nat, a = some ⟨b, off, none⟩ ∧ b < B ∧ b < w.heap.size ∧ FiveR w b (off + i * 5) R[i] ∧ InRaw R[i]
theorem RawIn.below {B : Nat} {w w1 : World} {a : Option Addr} {R : List Ins} (h : RawIn B w a R) (hb : Below B w w1) : RawIn B w1 a R := fun i hi => by
  obtain ⟨b, off, ha, h1, h2, h3, h4⟩ := h i hi
  exact ⟨b, off, ha, h1, Nat.lt_of_lt_of_le h2 hb.size, ⟨(hb.cell (p := ⟨b, _, none⟩) h1).trans h3.1, (hb.cell (p := ⟨b, _, none⟩) h1).trans h3.2.1, (hb.cell (p := ⟨b, _, none⟩) h1).trans h3.2.2.1, (hb.cell (p := ⟨b, _, none⟩) h1).trans h3.2.2.2.1, (hb.cell (p := ⟨b, _, none⟩) h1).trans h3.2.2.2.2⟩, h4⟩
theorem OOwn.cell {w : World} {base g cap : Nat} {O : List Int} (h : OOwn w base (.slice (some ⟨g, 0, none⟩) O.length cap) O) (i : Nat) (hi : i < O.length) : w.cell? ⟨g, i, none⟩ = some (.int .u8 O[i]) := by
  have hc := World.ownsRow.cells h (g := g) rfl i (.int .u8 O[i]) (by simp [hi])
  have ea : (⟨g, 0, none⟩ : Addr).add i = ⟨g, i, none⟩ := by by_cases h0 : i = 0 <;> simp [Addr.add, h0]
  rwa [ea] at hc
end Go.Proofs.YtmmakknhaacplaaGreatDoor


/-
  Stage 3, instr: a byte of a row that is another one. No Go in sight.
-/
namespace Go.Proofs.YtmmakknhaacplaaGreatDoor
open Go.RowKit

theorem dec_prefix (P : List Ins) (h : AllR P) (ho : OpsIn P) (n : Nat) (S : List UInt8) (j : Nat) (M : List Ins) : decF (n + P.length) (code P ++ S) j M = decF n S (j + 8 * P.length) (M ++ P) := by
  induction P generalizing j M with
  | nil => simp [code]
  | cons k P ih =>
    have hk := h k (by simp)
    have hok := ho k (by simp)
    rw [code_cons, List.length_cons, ← Nat.add_assoc, decF, if_neg (by simp [bytesOf, bytesI]), List.append_assoc, if_pos (readE_code hok.1 hok.2 hk _), drop_bytes, ins_bytes hok.1 hok.2 hk,
      ih (fun x hx => h x (by simp [hx])) (fun x hx => ho x (by simp [hx])), List.append_assoc]
    have e : j + 8 + 8 * P.length = j + 8 * (P.length + 1) := by omega
    rw [e]
    rfl
theorem turned (P Q : List Ins) (k : Ins) (X : List UInt8) (hA : AllR (P ++ k :: Q)) (hO : OpsIn (P ++ k :: Q)) (hX : X.length = 8) (hne : X ≠ bytesOf k) :
    (decA (code P ++ (X ++ code Q))).1 ≠ P ++ k :: Q ∧ ((decA (code P ++ (X ++ code Q))).2.1 = 0 ∨ (decA (code P ++ (X ++ code Q))).2.2 = ((8 * P.length : Nat) : Int)) := by
  have hAP : AllR P := fun x hx => hA x (by simp [hx])
  have hOP : OpsIn P := fun x hx => hO x (by simp [hx])
  have hAQ : AllR Q := fun x hx => hA x (by simp [hx])
  have hOQ : OpsIn Q := fun x hx => hO x (by simp [hx])
  have hl : (code P ++ (X ++ code Q)).length + 1 = (7 * P.length + 8 + (code Q).length + 1) + P.length := by
    rw [List.length_append, List.length_append, code_length, hX]; omega
  have hne2 : X ++ code Q ≠ [] := fun h => by
    have := congrArg List.length h
    simp [hX] at this
  unfold decA
  rw [hl, dec_prefix P hAP hOP, decF, if_neg hne2]
  by_cases he : readE (X ++ code Q) = 0
  · rw [if_pos he]
    have hd : (X ++ code Q).drop 8 = code Q := by rw [List.drop_append, ← hX]; simp
    rw [hd, dec_code Q hAQ hOQ _ _ _ (by rw [code_length]; omega)]
    refine ⟨fun h => hne ?_, .inl rfl⟩
    have h2 : insOf (X ++ code Q) = k := by
      have := congrArg (fun l => l[P.length]?) h
      simpa using this
    have h3 := bytes_ins (X ++ code Q) (by rw [List.length_append, hX]; omega)
    rw [h2, List.take_append_of_le_length (by omega), List.take_of_length_le (by omega)] at h3
    exact h3.symm
  · rw [if_neg he]
    refine ⟨fun h => ?_, .inr (by simp)⟩
    have := congrArg List.length h
    simp at this
theorem set_code (L : List Ins) (hA : AllR L) (hO : OpsIn L) (kk : Nat) (x : UInt8) (hk : kk < (code L).length) (hx : (code L)[kk] ≠ x) :
    (decA ((code L).take kk ++ [x] ++ (code L).drop (kk + 1))).1 ≠ L ∧ ((decA ((code L).take kk ++ [x] ++ (code L).drop (kk + 1))).2.1 = 0 ∨ (decA ((code L).take kk ++ [x] ++ (code L).drop (kk + 1))).2.2 = ((8 * (kk / 8) : Nat) : Int)) := by
  have hcl := code_length L
  have hq : kk / 8 < L.length := by omega
  have hsplit : L = L.take (kk / 8) ++ L[kk / 8] :: L.drop (kk / 8 + 1) := by
    rw [← List.drop_eq_getElem_cons hq, List.take_append_drop]
  have hP : (L.take (kk / 8)).length = kk / 8 := by rw [List.length_take]; omega
  generalize L.take (kk / 8) = P at hsplit hP
  generalize L[kk / 8] = k at hsplit
  generalize L.drop (kk / 8 + 1) = Q at hsplit
  subst hsplit
  have hc : code (P ++ k :: Q) = code P ++ (bytesOf k ++ code Q) := by rw [code_app, code_cons]
  have hPl : (code P).length = 8 * (kk / 8) := by rw [code_length, hP]
  have hB := bytesOf_length k
  obtain ⟨r, hr⟩ : ∃ r, r = kk % 8 := ⟨_, rfl⟩
  have hr8 : r < 8 := by omega
  have hkr : kk = (code P).length + r := by omega
  have e1 : (code (P ++ k :: Q)).take kk = code P ++ (bytesOf k).take r := by
    rw [hc, hkr, List.take_length_add_append, List.take_append_of_le_length (by omega)]
  have e2 : (code (P ++ k :: Q)).drop (kk + 1) = (bytesOf k).drop (r + 1) ++ code Q := by
    have : kk + 1 = (code P).length + (r + 1) := by omega
    rw [hc, this, List.drop_length_add_append, List.drop_append_of_le_length (by omega)]
  have e3 : (code (P ++ k :: Q))[kk]? = (bytesOf k)[r]? := by
    rw [hc, hkr, List.getElem?_append_right (by omega), List.getElem?_append_left (by omega)]
    congr 1
    omega
  rw [e1, e2]
  have e4 : code P ++ (bytesOf k).take r ++ [x] ++ ((bytesOf k).drop (r + 1) ++ code Q) = code P ++ (((bytesOf k).take r ++ [x] ++ (bytesOf k).drop (r + 1)) ++ code Q) := by simp
  rw [e4]
  have hX : ((bytesOf k).take r ++ [x] ++ (bytesOf k).drop (r + 1)).length = 8 := by
    simp only [List.length_append, List.length_take, List.length_drop, List.length_cons, List.length_nil, hB]; omega
  have hne : (bytesOf k).take r ++ [x] ++ (bytesOf k).drop (r + 1) ≠ bytesOf k := fun h => by
    have h1 := congrArg (fun l => l[r]?) h
    have h2 : ((bytesOf k).take r ++ [x] ++ (bytesOf k).drop (r + 1))[r]? = some x := by
      rw [List.append_assoc, List.getElem?_append_right (by rw [List.length_take]; omega)]
      have : r - ((bytesOf k).take r).length = 0 := by rw [List.length_take]; omega
      rw [this]; rfl
    simp only [h2] at h1
    rw [← e3, List.getElem?_eq_getElem hk] at h1
    exact hx (Option.some.inj h1).symm
  have := turned P Q k _ hA hO hX hne
  rw [hP] at this
  exact this
end Go.Proofs.YtmmakknhaacplaaGreatDoor


/-
  Stage 3, instr: two rows of instructions, compared.
-/
namespace Go.Proofs.YtmmakknhaacplaaGreatDoor
open Go.RowKit

end Go.Proofs.YtmmakknhaacplaaGreatDoor
