import Derived.Test.YtimiofkiadlnbaaZRet
import Derived.Test.YtimiofkiadlnbaaP36
/-
  Stage 13, fastvm: each step of a machine.
-/
namespace Go.Proofs.Ytimiofkiadlnbaa
namespace Z
open Go.RowKit
open T (Sep Ob Kp Mf FlIn boxOb)

/-- A gate by its number. -/
def Pr.gate (P : Pr) (k : Nat) : Fg := P.gates.getD k ⟨0, 0, 0, fun _ => 0⟩
theorem Pr.gate_at (P : Pr) (k : Nat) (h : k < P.gates.length) : P.gate k = P.gates[k] := by unfold Pr.gate; simp [h]
def stp0 (s : Fm) : Fm := { s with p := s.p + 1 }
def stp1 (i : Fi) (s : Fm) : Fm := { s with r := updR s.r i.a (i.i), p := s.p + 1 }
def stp2 (i : Fi) (s : Fm) : Fm := { s with r := updR s.r i.a (s.r i.b), p := s.p + 1 }
def stp3 (i : Fi) (s : Fm) : Fm := { s with r := updR s.r i.a (IntKind.u64.wrap (s.r i.b + s.r i.c)), p := s.p + 1 }
def stp4 (i : Fi) (s : Fm) : Fm := { s with r := updR s.r i.a (IntKind.u64.wrap (s.r i.b - s.r i.c)), p := s.p + 1 }
def stp5 (i : Fi) (s : Fm) : Fm := { s with r := updR s.r i.a (IntKind.u64.wrap (s.r i.b * s.r i.c)), p := s.p + 1 }
def stp6 (i : Fi) (s : Fm) : Fm := { s with r := updR s.r i.a (bits .and .u64 (s.r i.b) (s.r i.c)), p := s.p + 1 }
def stp7 (i : Fi) (s : Fm) : Fm := { s with r := updR s.r i.a (bits .or .u64 (s.r i.b) (s.r i.c)), p := s.p + 1 }
def stp8 (i : Fi) (s : Fm) : Fm := { s with r := updR s.r i.a (bits .xor .u64 (s.r i.b) (s.r i.c)), p := s.p + 1 }
def stp9 (i : Fi) (s : Fm) : Fm := { s with r := updR s.r i.a (IntKind.u64.wrap (s.r i.b * 2 ^ min ((s.r i.c).tmod 64).toNat 64)), p := s.p + 1 }
def stp10 (i : Fi) (s : Fm) : Fm := { s with r := updR s.r i.a (s.r i.b / 2 ^ min ((s.r i.c).tmod 64).toNat 64), p := s.p + 1 }
def stp11 (i : Fi) (s : Fm) : Fm := { s with r := updR s.r i.a (IntKind.u64.wrap (s.r i.b + i.i)), p := s.p + 1 }
def stp12 (i : Fi) (s : Fm) : Fm := { s with r := updR s.r i.a (if s.r i.b < s.r i.c then 1 else 0), p := s.p + 1 }
def stp13 (i : Fi) (s : Fm) : Fm := { s with r := updR s.r i.a (if s.r i.b = s.r i.c then 1 else 0), p := s.p + 1 }
def stp20 (i : Fi) (s : Fm) : Fm := { s with p := i.i.toNat }
def stp21 (i : Fi) (s : Fm) : Fm := { s with p := if (s.r i.a == s.r i.b) = true then i.i.toNat else s.p + 1 }
def stp22 (i : Fi) (s : Fm) : Fm := { s with p := if (s.r i.a != s.r i.b) = true then i.i.toNat else s.p + 1 }
def stp23 (i : Fi) (s : Fm) : Fm := { s with p := if decide (s.r i.a < s.r i.b) = true then i.i.toNat else s.p + 1 }
def stp24 (i : Fi) (s : Fm) : Fm := { s with p := if decide (s.r i.b ≤ s.r i.a) = true then i.i.toNat else s.p + 1 }
def stp27 (i : Fi) (s : Fm) : Fm := { s with e := 1, v := s.r i.a, f := 0 }
def stp28 (i : Fi) (s : Fm) : Fm := { s with e := 3, v := i.i, f := 0 }
def stp29 (i : Fi) (s : Fm) : Fm := match s.inp with | [] => { s with e := 6, v := 0, f := 0 } | n :: L => { s with inp := L, r := updR s.r i.a n, p := s.p + 1 }
def stp30 (i : Fi) (s : Fm) : Fm := { s with out := s.out ++ [s.r i.a], p := s.p + 1 }
def stp31 (P : Pr) (i : Fi) (s : Fm) : Fm := if P.dep ≤ s.st.length then { s with e := 5, v := 0, f := 0 } else { s with g := i.i.toNat, p := (P.gate i.i.toNat).e, r := entR (P.gate i.i.toNat) (P.gate i.i.toNat).a (fun k => s.r (k + 1)), st := s.st ++ [⟨s.g, s.p + 1, s.r⟩] }
def stp32 (P : Pr) (s : Fm) : Fm := match s.st.getLast? with | none => { s with e := 1, v := if (P.gate s.g).s = 0 then 0 else s.r 1, f := 0 } | some t => { s with g := t.g, p := t.p, r := entR ⟨t.p, 0, 0, t.r⟩ (P.gate s.g).s (fun k => s.r (k + 1)), st := s.st.dropLast }
def stp60 (i : Fi) (s : Fm) : Fm := if 65536 - 1 < IntKind.u64.wrap (s.r i.b + i.i) then { s with e := 7, v := 0, f := 5 } else { s with tc := s.tc ++ [⟨false, IntKind.u64.wrap (s.r i.b + i.i), 1⟩], r := updR s.r i.a (T.ldV s.m (IntKind.u64.wrap (s.r i.b + i.i)).toNat 1 : Nat), p := s.p + 1 }
def stp61 (i : Fi) (s : Fm) : Fm := if 65536 - 8 < IntKind.u64.wrap (s.r i.b + i.i) then { s with e := 7, v := 0, f := 5 } else { s with tc := s.tc ++ [⟨false, IntKind.u64.wrap (s.r i.b + i.i), 8⟩], r := updR s.r i.a (T.ldV s.m (IntKind.u64.wrap (s.r i.b + i.i)).toNat 8 : Nat), p := s.p + 1 }
def stp62 (i : Fi) (s : Fm) : Fm := if 65536 - 1 < IntKind.u64.wrap (s.r i.b + i.i) then { s with e := 7, v := 0, f := 5 } else { s with tc := s.tc ++ [⟨true, IntKind.u64.wrap (s.r i.b + i.i), 1⟩], m := T.stB s.m (IntKind.u64.wrap (s.r i.b + i.i)).toNat 1 (s.r i.a).toNat, p := s.p + 1 }
def stp63 (i : Fi) (s : Fm) : Fm := if 65536 - 8 < IntKind.u64.wrap (s.r i.b + i.i) then { s with e := 7, v := 0, f := 5 } else { s with tc := s.tc ++ [⟨true, IntKind.u64.wrap (s.r i.b + i.i), 8⟩], m := T.stB s.m (IntKind.u64.wrap (s.r i.b + i.i)).toNat 8 (s.r i.a).toNat, p := s.p + 1 }
def stp64 (i : Fi) (s : Fm) : Fm := if 65536 - 16 < IntKind.u64.wrap (s.r i.b + i.i) then { s with e := 7, v := 0, f := 5 } else { s with tc := s.tc ++ [⟨false, IntKind.u64.wrap (s.r i.b + i.i), 16⟩], r := updR s.r i.a (T.ldV s.m (IntKind.u64.wrap (s.r i.b + i.i)).toNat 8 : Nat), p := s.p + 1 }
def stp65 (i : Fi) (s : Fm) : Fm := if 65536 - 16 < IntKind.u64.wrap (s.r i.b + i.i) then { s with e := 7, v := 0, f := 5 } else { s with tc := s.tc ++ [⟨true, IntKind.u64.wrap (s.r i.b + i.i), 16⟩], m := T.stB (T.stB s.m (IntKind.u64.wrap (s.r i.b + i.i)).toNat 8 (s.r i.a).toNat) ((IntKind.u64.wrap (s.r i.b + i.i)).toNat + 8) 8 0, p := s.p + 1 }
def stp70 (i : Fi) (s : Fm) : Fm := if decide (s.r i.a < i.i) = true then { s with p := s.p + 1 } else { s with e := 2, v := IntKind.u64.wrap i.c, f := 0 }
def stp71 (i : Fi) (s : Fm) : Fm := if decide (i.i ≤ s.r i.a) = true then { s with p := s.p + 1 } else { s with e := 2, v := IntKind.u64.wrap i.c, f := 0 }
def stp72 (i : Fi) (s : Fm) : Fm := { s with e := 2, v := IntKind.u64.wrap i.c, f := 0 }
/-- What an instruction does. -/
def stepI (P : Pr) (i : Fi) (s : Fm) : Fm := if i.op = 0 then stp0 s else if i.op = 1 then stp1 i s else if i.op = 2 then stp2 i s else if i.op = 3 then stp3 i s else if i.op = 4 then stp4 i s else if i.op = 5 then stp5 i s else if i.op = 6 then stp6 i s else if i.op = 7 then stp7 i s else if i.op = 8 then stp8 i s else if i.op = 9 then stp9 i s else if i.op = 10 then stp10 i s else if i.op = 11 then stp11 i s else if i.op = 12 then stp12 i s else if i.op = 13 then stp13 i s else if i.op = 20 then stp20 i s else if i.op = 21 then stp21 i s else if i.op = 22 then stp22 i s else if i.op = 23 then stp23 i s else if i.op = 24 then stp24 i s else if i.op = 27 then stp27 i s else if i.op = 28 then stp28 i s else if i.op = 29 then stp29 i s else if i.op = 30 then stp30 i s else if i.op = 31 then stp31 P i s else if i.op = 32 then stp32 P s else if i.op = 60 then stp60 i s else if i.op = 61 then stp61 i s else if i.op = 62 then stp62 i s else if i.op = 63 then stp63 i s else if i.op = 64 then stp64 i s else if i.op = 65 then stp65 i s else if i.op = 70 then stp70 i s else if i.op = 71 then stp71 i s else if i.op = 72 then stp72 i s else s
structure Fm.Ok (P : Pr) (s : Fm) : Prop where
  g : s.g < P.code.length
  p : s.p ≤ 400
  r : ∀ k, 0 ≤ s.r k ∧ s.r k < 18446744073709551616
  st : (s.st.length : Int) ≤ P.dep
  fr : ∀ f ∈ s.st, f.g < P.code.length ∧ f.p ≤ 400 ∧ ∀ k, 0 ≤ f.r k ∧ f.r k < 18446744073709551616
  inp : ∀ n ∈ s.inp, 0 ≤ n ∧ n < 18446744073709551616
  il : s.inp.length ≤ 140737488355328
  ol : s.out.length ≤ 1000000
  tl : s.tc.length ≤ 1000000
set_option maxRecDepth 100000 in
set_option maxHeartbeats 4000000 in
theorem step_all (P : Pr) (ok : P.Ok) (s : Fm) (i : Fi) (hs : s.Ok P) (ho : ∃ n, n ≤ 400 ∧ i.Ok n P.gates.length) (B : Nat) (V : World) (a : Nat) (l : List Ob) (h : MIn B V a P s l) :
    Calls Try.prog (methF i.op) #[.agg #[.int .u8 i.op, .int .i64 i.a, .int .i64 i.b, .int .i64 i.c, .int .u64 i.i], .pointer (some ⟨a, 0, none⟩)] V fun x w' => x = .returned (.tuple #[]) ∧ MIn B w' a P (stepI P i s) l ∧ Below B V w' := by
  obtain ⟨n, hn4, ho⟩ := ho
  have ia := ho.a
  have ib := ho.b
  have hp : s.p ≤ 1000000 := Nat.le_trans hs.p (by omega)
  have hgs : P.code.length = P.gates.length := ok.nc
  have hc : i.op = 0 ∨ i.op = 1 ∨ i.op = 2 ∨ i.op = 3 ∨ i.op = 4 ∨ i.op = 5 ∨ i.op = 6 ∨ i.op = 7 ∨ i.op = 8 ∨ i.op = 9 ∨ i.op = 10 ∨ i.op = 11 ∨ i.op = 12 ∨ i.op = 13 ∨ i.op = 20 ∨ i.op = 21 ∨ i.op = 22 ∨ i.op = 23 ∨ i.op = 24 ∨ i.op = 27 ∨ i.op = 28 ∨ i.op = 29 ∨ i.op = 30 ∨ i.op = 31 ∨ i.op = 32 ∨ i.op = 60 ∨ i.op = 61 ∨ i.op = 62 ∨ i.op = 63 ∨ i.op = 64 ∨ i.op = 65 ∨ i.op = 70 ∨ i.op = 71 ∨ i.op = 72 := by have := ho.op; unfold Named at this; omega
  rcases hc with e | e | e | e | e | e | e | e | e | e | e | e | e | e | e | e | e | e | e | e | e | e | e | e | e | e | e | e | e | e | e | e | e | e
  · skip
    rw [show methF i.op = 50 by rw [e]; rfl, show stepI P i s = stp0 s by unfold stepI; rw [e]; rfl]
    exact h.onBox (s' := stp0 s) ⟨rfl, rfl, rfl, rfl, rfl⟩ (fun q hb => nop_op a _ i V hb hp)
  · skip
    rw [show methF i.op = 37 by rw [e]; rfl, show stepI P i s = stp1 i s by unfold stepI; rw [e]; rfl]
    exact h.onBox (s' := stp1 i s) ⟨rfl, rfl, rfl, rfl, rfl⟩ (fun q hb => li_op a _ i V hb ia hp)
  · skip
    rw [show methF i.op = 38 by rw [e]; rfl, show stepI P i s = stp2 i s by unfold stepI; rw [e]; rfl]
    exact h.onBox (s' := stp2 i s) ⟨rfl, rfl, rfl, rfl, rfl⟩ (fun q hb => mov_op a _ i V hb ia ib hp)
  · skip
    have ic : i.c < 16 := by have := ho.c; omega
    rw [show methF i.op = 39 by rw [e]; rfl, show stepI P i s = stp3 i s by unfold stepI; rw [e]; rfl]
    exact h.onBox (s' := stp3 i s) ⟨rfl, rfl, rfl, rfl, rfl⟩ (fun q hb => add_op a _ i V hb ia ib ic hp)
  · skip
    have ic : i.c < 16 := by have := ho.c; omega
    rw [show methF i.op = 40 by rw [e]; rfl, show stepI P i s = stp4 i s by unfold stepI; rw [e]; rfl]
    exact h.onBox (s' := stp4 i s) ⟨rfl, rfl, rfl, rfl, rfl⟩ (fun q hb => sub_op a _ i V hb ia ib ic hp)
  · skip
    have ic : i.c < 16 := by have := ho.c; omega
    rw [show methF i.op = 41 by rw [e]; rfl, show stepI P i s = stp5 i s by unfold stepI; rw [e]; rfl]
    exact h.onBox (s' := stp5 i s) ⟨rfl, rfl, rfl, rfl, rfl⟩ (fun q hb => mul_op a _ i V hb ia ib ic hp)
  · skip
    have ic : i.c < 16 := by have := ho.c; omega
    rw [show methF i.op = 42 by rw [e]; rfl, show stepI P i s = stp6 i s by unfold stepI; rw [e]; rfl]
    exact h.onBox (s' := stp6 i s) ⟨rfl, rfl, rfl, rfl, rfl⟩ (fun q hb => and_op a _ i V hb ia ib ic hp)
  · skip
    have ic : i.c < 16 := by have := ho.c; omega
    rw [show methF i.op = 43 by rw [e]; rfl, show stepI P i s = stp7 i s by unfold stepI; rw [e]; rfl]
    exact h.onBox (s' := stp7 i s) ⟨rfl, rfl, rfl, rfl, rfl⟩ (fun q hb => or_op a _ i V hb ia ib ic hp)
  · skip
    have ic : i.c < 16 := by have := ho.c; omega
    rw [show methF i.op = 44 by rw [e]; rfl, show stepI P i s = stp8 i s by unfold stepI; rw [e]; rfl]
    exact h.onBox (s' := stp8 i s) ⟨rfl, rfl, rfl, rfl, rfl⟩ (fun q hb => xor_op a _ i V hb ia ib ic hp)
  · skip
    have ic : i.c < 16 := by have := ho.c; omega
    rw [show methF i.op = 45 by rw [e]; rfl, show stepI P i s = stp9 i s by unfold stepI; rw [e]; rfl]
    exact h.onBox (s' := stp9 i s) ⟨rfl, rfl, rfl, rfl, rfl⟩ (fun q hb => shl_op a _ i V hb ia ib ic hp (hs.r i.c).1)
  · skip
    have ic : i.c < 16 := by have := ho.c; omega
    rw [show methF i.op = 46 by rw [e]; rfl, show stepI P i s = stp10 i s by unfold stepI; rw [e]; rfl]
    exact h.onBox (s' := stp10 i s) ⟨rfl, rfl, rfl, rfl, rfl⟩ (fun q hb => shr_op a _ i V hb ia ib ic hp (hs.r i.c).1)
  · skip
    rw [show methF i.op = 47 by rw [e]; rfl, show stepI P i s = stp11 i s by unfold stepI; rw [e]; rfl]
    exact h.onBox (s' := stp11 i s) ⟨rfl, rfl, rfl, rfl, rfl⟩ (fun q hb => addi_op a _ i V hb ia ib hp)
  · skip
    have ic : i.c < 16 := by have := ho.c; omega
    rw [show methF i.op = 48 by rw [e]; rfl, show stepI P i s = stp12 i s by unfold stepI; rw [e]; rfl]
    exact h.onBox (s' := stp12 i s) ⟨rfl, rfl, rfl, rfl, rfl⟩ (fun q hb => slt_op a _ i V hb ia ib ic hp)
  · skip
    have ic : i.c < 16 := by have := ho.c; omega
    rw [show methF i.op = 49 by rw [e]; rfl, show stepI P i s = stp13 i s by unfold stepI; rw [e]; rfl]
    exact h.onBox (s' := stp13 i s) ⟨rfl, rfl, rfl, rfl, rfl⟩ (fun q hb => seq_op a _ i V hb ia ib ic hp)
  · skip
    have hj : 0 ≤ i.i ∧ i.i < 1000 := ⟨ho.im.1, by have := ho.jm ⟨by omega, by omega⟩; omega⟩
    rw [show methF i.op = 51 by rw [e]; rfl, show stepI P i s = stp20 i s by unfold stepI; rw [e]; rfl]
    exact h.onBox (s' := stp20 i s) ⟨rfl, rfl, rfl, rfl, rfl⟩ (fun q hb => jmp_op a _ i V hb hj)
  · skip
    have hj : 0 ≤ i.i ∧ i.i < 1000 := ⟨ho.im.1, by have := ho.jm ⟨by omega, by omega⟩; omega⟩
    rw [show methF i.op = 52 by rw [e]; rfl, show stepI P i s = stp21 i s by unfold stepI; rw [e]; rfl]
    refine h.onBox (s' := stp21 i s) ⟨rfl, rfl, rfl, rfl, rfl⟩ (fun q hb => ?_)
    refine (beq_op a _ i V hb ia ib hp hj).mono ?_
    rintro x w' ⟨h1, h2⟩
    refine ⟨h1, ?_⟩
    unfold Fx.br at h2
    unfold stp21
    split at h2 <;> rename_i hq
    · replace hq : (s.r i.a == s.r i.b) = true := hq
      rw [if_pos hq]; exact h2
    · replace hq : ¬ (s.r i.a == s.r i.b) = true := hq
      rw [if_neg hq]; exact h2
  · skip
    have hj : 0 ≤ i.i ∧ i.i < 1000 := ⟨ho.im.1, by have := ho.jm ⟨by omega, by omega⟩; omega⟩
    rw [show methF i.op = 53 by rw [e]; rfl, show stepI P i s = stp22 i s by unfold stepI; rw [e]; rfl]
    refine h.onBox (s' := stp22 i s) ⟨rfl, rfl, rfl, rfl, rfl⟩ (fun q hb => ?_)
    refine (bne_op a _ i V hb ia ib hp hj).mono ?_
    rintro x w' ⟨h1, h2⟩
    refine ⟨h1, ?_⟩
    unfold Fx.br at h2
    unfold stp22
    split at h2 <;> rename_i hq
    · replace hq : (s.r i.a != s.r i.b) = true := hq
      rw [if_pos hq]; exact h2
    · replace hq : ¬ (s.r i.a != s.r i.b) = true := hq
      rw [if_neg hq]; exact h2
  · skip
    have hj : 0 ≤ i.i ∧ i.i < 1000 := ⟨ho.im.1, by have := ho.jm ⟨by omega, by omega⟩; omega⟩
    rw [show methF i.op = 54 by rw [e]; rfl, show stepI P i s = stp23 i s by unfold stepI; rw [e]; rfl]
    refine h.onBox (s' := stp23 i s) ⟨rfl, rfl, rfl, rfl, rfl⟩ (fun q hb => ?_)
    refine (blt_op a _ i V hb ia ib hp hj).mono ?_
    rintro x w' ⟨h1, h2⟩
    refine ⟨h1, ?_⟩
    unfold Fx.br at h2
    unfold stp23
    split at h2 <;> rename_i hq
    · replace hq : decide (s.r i.a < s.r i.b) = true := hq
      rw [if_pos hq]; exact h2
    · replace hq : ¬ decide (s.r i.a < s.r i.b) = true := hq
      rw [if_neg hq]; exact h2
  · skip
    have hj : 0 ≤ i.i ∧ i.i < 1000 := ⟨ho.im.1, by have := ho.jm ⟨by omega, by omega⟩; omega⟩
    rw [show methF i.op = 55 by rw [e]; rfl, show stepI P i s = stp24 i s by unfold stepI; rw [e]; rfl]
    refine h.onBox (s' := stp24 i s) ⟨rfl, rfl, rfl, rfl, rfl⟩ (fun q hb => ?_)
    refine (bge_op a _ i V hb ia ib hp hj).mono ?_
    rintro x w' ⟨h1, h2⟩
    refine ⟨h1, ?_⟩
    unfold Fx.br at h2
    unfold stp24
    split at h2 <;> rename_i hq
    · replace hq : decide (s.r i.b ≤ s.r i.a) = true := hq
      rw [if_pos hq]; exact h2
    · replace hq : ¬ decide (s.r i.b ≤ s.r i.a) = true := hq
      rw [if_neg hq]; exact h2
  · skip
    rw [show methF i.op = 56 by rw [e]; rfl, show stepI P i s = stp27 i s by unfold stepI; rw [e]; rfl]
    exact h.onBox (s' := stp27 i s) ⟨rfl, rfl, rfl, rfl, rfl⟩ (fun q hb => halt_op a _ i V hb ia)
  · skip
    rw [show methF i.op = 57 by rw [e]; rfl, show stepI P i s = stp28 i s by unfold stepI; rw [e]; rfl]
    exact h.onBox (s' := stp28 i s) ⟨rfl, rfl, rfl, rfl, rfl⟩ (fun q hb => trap_op a _ i V hb )
  · skip
    rw [show methF i.op = 58 by rw [e]; rfl, show stepI P i s = stp29 i s by unfold stepI; rw [e]; rfl]
    cases hi : s.inp with
    | nil =>
      rw [show stp29 i s = { s with e := 6, v := 0, f := 0 } by simp [stp29, hi]]
      exact takeIn_none B V a P s l i h hi
    | cons n L =>
      rw [show stp29 i s = { s with inp := L, r := updR s.r i.a n, p := s.p + 1 } by simp [stp29, hi]]
      exact takeIn_some B V a P s l i n L h hi (by have := hs.il; rw [hi] at this; simp at this; omega) ia hp
  · skip
    rw [show methF i.op = 59 by rw [e]; rfl, show stepI P i s = stp30 i s by unfold stepI; rw [e]; rfl]
    exact putOut_op B V a P s l i h ia hs.ol hp
  · skip
    rw [show methF i.op = 60 by rw [e]; rfl, show stepI P i s = stp31 P i s by unfold stepI; rw [e]; rfl]
    unfold stp31
    by_cases hq : P.dep ≤ s.st.length
    · rw [if_pos hq]
      exact call_full B V a P s l i h hq
    · rw [if_neg hq]
      have hcl := ho.cl e
      have him := ho.im.1
      have hgl : i.i.toNat < P.gates.length := by omega
      have hd := ok.dp
      rw [P.gate_at _ hgl]
      exact call_ok B V a P s l i i.i.toNat h (by omega) (by omega) hgl (by have := ok.n1; omega) (ok.gate _ hgl (by omega)).2.1 (by omega) hp
  · skip
    rw [show methF i.op = 61 by rw [e]; rfl, show stepI P i s = stp32 P s by unfold stepI; rw [e]; rfl]
    have hgl : s.g < P.gates.length := by rw [← hgs]; exact hs.g
    have h7 := (ok.gate s.g hgl hs.g).2.2
    have hg := P.gate_at _ hgl
    have hd := ok.dp
    have hsl := hs.st
    rcases List.eq_nil_or_concat s.st with hz | ⟨L, t, hz⟩
    · by_cases h0 : P.gates[s.g].s = 0
      · rw [show stp32 P s = { s with e := 1, v := 0, f := 0 } by simp [stp32, hz, hg, h0]]
        exact ret_end0 B V a P s l i h hgl h7 hz h0
      · rw [show stp32 P s = { s with e := 1, v := s.r 1, f := 0 } by simp [stp32, hz, hg, h0]]
        exact ret_end1 B V a P s l i h hgl h7 hz h0
    · rw [List.concat_eq_append] at hz
      rw [show stp32 P s = { s with g := t.g, p := t.p, r := entR ⟨t.p, 0, 0, t.r⟩ P.gates[s.g].s (fun k => s.r (k + 1)), st := L } by simp [stp32, hz, hg]]
      exact ret_ok B V a P s l i L t h hgl h7 hz (by rw [hz, List.length_append] at hsl; simp at hsl; omega)
  · skip
    rw [show methF i.op = 62 by rw [e]; rfl, show stepI P i s = stp60 i s by unfold stepI; rw [e]; rfl]
    unfold stp60
    by_cases hq : 65536 - 1 < IntKind.u64.wrap (s.r i.b + i.i)
    · rw [if_pos hq]
      exact loadByte_bad B V a P s l i h ib hq
    · rw [if_neg hq]
      exact loadByte_ok B V a P s l i h ia ib (by omega) hs.tl hp
  · skip
    rw [show methF i.op = 63 by rw [e]; rfl, show stepI P i s = stp61 i s by unfold stepI; rw [e]; rfl]
    unfold stp61
    by_cases hq : 65536 - 8 < IntKind.u64.wrap (s.r i.b + i.i)
    · rw [if_pos hq]
      exact loadWord_bad B V a P s l i h ib hq
    · rw [if_neg hq]
      exact loadWord_ok B V a P s l i h ia ib (by omega) hs.tl hp
  · skip
    rw [show methF i.op = 64 by rw [e]; rfl, show stepI P i s = stp62 i s by unfold stepI; rw [e]; rfl]
    unfold stp62
    by_cases hq : 65536 - 1 < IntKind.u64.wrap (s.r i.b + i.i)
    · rw [if_pos hq]
      exact storeByte_bad B V a P s l i h ib hq
    · rw [if_neg hq]
      exact storeByte_ok B V a P s l i h ia ib (by omega) hs.tl hp (hs.r i.a)
  · skip
    rw [show methF i.op = 65 by rw [e]; rfl, show stepI P i s = stp63 i s by unfold stepI; rw [e]; rfl]
    unfold stp63
    by_cases hq : 65536 - 8 < IntKind.u64.wrap (s.r i.b + i.i)
    · rw [if_pos hq]
      exact storeWord_bad B V a P s l i h ib hq
    · rw [if_neg hq]
      exact storeWord_ok B V a P s l i h ia ib (by omega) hs.tl hp (hs.r i.a)
  · skip
    rw [show methF i.op = 66 by rw [e]; rfl, show stepI P i s = stp64 i s by unfold stepI; rw [e]; rfl]
    unfold stp64
    by_cases hq : 65536 - 16 < IntKind.u64.wrap (s.r i.b + i.i)
    · rw [if_pos hq]
      exact loadGranule_bad B V a P s l i h ib hq
    · rw [if_neg hq]
      exact loadGranule_ok B V a P s l i h ia ib (by omega) hs.tl hp
  · skip
    rw [show methF i.op = 67 by rw [e]; rfl, show stepI P i s = stp65 i s by unfold stepI; rw [e]; rfl]
    unfold stp65
    by_cases hq : 65536 - 16 < IntKind.u64.wrap (s.r i.b + i.i)
    · rw [if_pos hq]
      exact storeGranule_bad B V a P s l i h ib hq
    · rw [if_neg hq]
      exact storeGranule_ok B V a P s l i h ia ib (by omega) hs.tl hp (hs.r i.a)
  · skip
    rw [show methF i.op = 68 by rw [e]; rfl, show stepI P i s = stp70 i s by unfold stepI; rw [e]; rfl]
    unfold stp70
    by_cases hq : decide (s.r i.a < i.i) = true
    · rw [if_pos hq]
      refine h.onBox (s' := { s with p := s.p + 1 }) ⟨rfl, rfl, rfl, rfl, rfl⟩ (fun q hb => ?_)
      refine (guardBelow_op a _ i V hb ia hp).mono ?_
      rintro x w' ⟨h1, h2⟩
      unfold Fx.dm at h2
      rw [if_pos (show decide ((bxOf P s q).r i.a < i.i) = true from hq)] at h2
      exact ⟨h1, h2⟩
    · rw [if_neg hq]
      refine h.onBox (s' := { s with e := 2, v := IntKind.u64.wrap i.c, f := 0 }) ⟨rfl, rfl, rfl, rfl, rfl⟩ (fun q hb => ?_)
      refine (guardBelow_op a _ i V hb ia hp).mono ?_
      rintro x w' ⟨h1, h2⟩
      unfold Fx.dm at h2
      rw [if_neg (show ¬ decide ((bxOf P s q).r i.a < i.i) = true from hq)] at h2
      exact ⟨h1, h2⟩
  · skip
    rw [show methF i.op = 69 by rw [e]; rfl, show stepI P i s = stp71 i s by unfold stepI; rw [e]; rfl]
    unfold stp71
    by_cases hq : decide (i.i ≤ s.r i.a) = true
    · rw [if_pos hq]
      refine h.onBox (s' := { s with p := s.p + 1 }) ⟨rfl, rfl, rfl, rfl, rfl⟩ (fun q hb => ?_)
      refine (guardNotBelow_op a _ i V hb ia hp).mono ?_
      rintro x w' ⟨h1, h2⟩
      unfold Fx.dm at h2
      rw [if_pos (show decide (i.i ≤ (bxOf P s q).r i.a) = true from hq)] at h2
      exact ⟨h1, h2⟩
    · rw [if_neg hq]
      refine h.onBox (s' := { s with e := 2, v := IntKind.u64.wrap i.c, f := 0 }) ⟨rfl, rfl, rfl, rfl, rfl⟩ (fun q hb => ?_)
      refine (guardNotBelow_op a _ i V hb ia hp).mono ?_
      rintro x w' ⟨h1, h2⟩
      unfold Fx.dm at h2
      rw [if_neg (show ¬ decide (i.i ≤ (bxOf P s q).r i.a) = true from hq)] at h2
      exact ⟨h1, h2⟩
  · skip
    rw [show methF i.op = 70 by rw [e]; rfl, show stepI P i s = stp72 i s by unfold stepI; rw [e]; rfl]
    exact h.onBox (s' := stp72 i s) ⟨rfl, rfl, rfl, rfl, rfl⟩ (fun q hb => guard_op a _ i V hb hp)
end Z
end Go.Proofs.Ytimiofkiadlnbaa


/-
  Stage 13, fastvm: what is in order stays so.
-/
namespace Go.Proofs.Ytimiofkiadlnbaa
namespace Z
open Go.RowKit
open T (Sep Ob Kp Mf FlIn boxOb)

/-- Is a number a word? -/
def Wd (n : Int) : Prop := 0 ≤ n ∧ n < 18446744073709551616
theorem wd_wrap (n : Int) : Wd (IntKind.u64.wrap n) := by unfold Wd; rw [IntKind.wrap_u64]; omega
theorem wd_bits (op : BinOp) (a b : Int) : Wd (bits op .u64 a b) := by
  have h := bits_within op .u64 a b
  simp only [IntKind.min, IntKind.max, IntKind.signed, IntKind.bits, Bool.false_eq_true, if_false] at h
  exact ⟨h.1, by have := h.2; omega⟩
theorem wd_ld (m : Nat → UInt8) (n k : Nat) (hk : k ≤ 8) : Wd ((T.ldV m n k : Nat) : Int) := by
  unfold T.ldV
  split
  · have h := T.leB_lt m n k
    have h2 : 2 ^ (8 * k) ≤ 2 ^ 64 := Nat.pow_le_pow_right (by omega) (by omega)
    exact ⟨by omega, by have : T.leB m n k < 18446744073709551616 := Nat.lt_of_lt_of_le h h2; omega⟩
  · exact ⟨by decide, by decide⟩
theorem wd_div {n : Int} (h : Wd n) (k : Nat) : Wd (n / 2 ^ k) := by
  have hp : (0 : Int) < 2 ^ k := Int.pow_pos (by decide)
  exact ⟨Int.ediv_nonneg h.1 (Int.le_of_lt hp), Int.lt_of_le_of_lt (Int.ediv_le_self _ h.1) h.2⟩
theorem wd_01 (p : Prop) [Decidable p] : Wd (if p then 1 else 0) := by split <;> exact ⟨by decide, by decide⟩
theorem wd_upd {r : Nat → Int} (h : ∀ k, Wd (r k)) (i : Nat) {v : Int} (hv : Wd v) : ∀ k, Wd (updR r i v k) := by
  intro k
  unfold updR
  split
  · exact hv
  · exact h k
theorem wd_ent (g : Fg) (n : Nat) {A : Nat → Int} (hg : ∀ k, Wd (g.r k)) (hA : ∀ k, Wd (A k)) : ∀ k, Wd (entR g n A k) := by
  intro k
  unfold entR
  split
  · exact hA _
  · exact hg k
/-- A state in order, behind at most so many steps. -/
structure Fm.Okn (P : Pr) (n : Nat) (s : Fm) : Prop where
  g : s.g < P.code.length
  p : s.p ≤ 400
  r : ∀ k, Wd (s.r k)
  st : (s.st.length : Int) ≤ P.dep
  fr : ∀ f ∈ s.st, f.g < P.code.length ∧ f.p ≤ 400 ∧ ∀ k, Wd (f.r k)
  inp : ∀ n ∈ s.inp, Wd n
  il : s.inp.length ≤ 140737488355328
  out : ∀ n ∈ s.out, Wd n
  ol : s.out.length ≤ n
  tl : s.tc.length ≤ n
  v : Wd s.v
theorem Fm.Okn.ok {P : Pr} {n : Nat} {s : Fm} (h : s.Okn P n) (hn : n ≤ 1000000) : s.Ok P := ⟨h.g, h.p, h.r, h.st, h.fr, h.inp, h.il, Nat.le_trans h.ol hn, Nat.le_trans h.tl hn⟩
theorem Fm.Okn.mono {P : Pr} {n m : Nat} {s : Fm} (h : s.Okn P n) (hn : n ≤ m) : s.Okn P m := ⟨h.g, h.p, h.r, h.st, h.fr, h.inp, h.il, h.out, Nat.le_trans h.ol hn, Nat.le_trans h.tl hn, h.v⟩
/-- The ending alone. -/
theorem Fm.Okn.end {P : Pr} {n : Nat} {s : Fm} (h : s.Okn P n) (e f : Int) {v : Int} (hv : Wd v) : ({ s with e := e, v := v, f := f } : Fm).Okn P n := ⟨h.g, h.p, h.r, h.st, h.fr, h.inp, h.il, h.out, h.ol, h.tl, hv⟩
/-- Where it goes on alone. -/
theorem Fm.Okn.at {P : Pr} {n : Nat} {s : Fm} (h : s.Okn P n) {p : Nat} (hp : p ≤ 400) : ({ s with p := p } : Fm).Okn P n := ⟨h.g, hp, h.r, h.st, h.fr, h.inp, h.il, h.out, h.ol, h.tl, h.v⟩
theorem Fm.Okn.lay {P : Pr} {n : Nat} {s : Fm} (h : s.Okn P n) (i : Nat) {v : Int} (hv : Wd v) {p : Nat} (hp : p ≤ 400) : ({ s with r := updR s.r i v, p := p } : Fm).Okn P n := ⟨h.g, hp, wd_upd h.r i hv, h.st, h.fr, h.inp, h.il, h.out, h.ol, h.tl, h.v⟩
theorem wd0 : Wd 0 := ⟨by decide, by decide⟩
def Pr.Rr (P : Pr) : Prop := ∀ k, ∀ j, Wd ((P.gate k).r j)
set_option maxHeartbeats 4000000 in
theorem okn_step (P : Pr) (ok : P.Ok) (rr : P.Rr) (s : Fm) (i : Fi) (n m : Nat) (hs : s.Okn P n) (hm : m ≤ 400) (ho : i.Ok m P.gates.length) (hp : s.p < m) : (stepI P i s).Okn P (n + 1) := by
  have h1 := hs.mono (Nat.le_succ n)
  have h2 : s.p + 1 ≤ 400 := by omega
  have hgs : P.code.length = P.gates.length := ok.nc
  have hc : i.op = 0 ∨ i.op = 1 ∨ i.op = 2 ∨ i.op = 3 ∨ i.op = 4 ∨ i.op = 5 ∨ i.op = 6 ∨ i.op = 7 ∨ i.op = 8 ∨ i.op = 9 ∨ i.op = 10 ∨ i.op = 11 ∨ i.op = 12 ∨ i.op = 13 ∨ i.op = 20 ∨ i.op = 21 ∨ i.op = 22 ∨ i.op = 23 ∨ i.op = 24 ∨ i.op = 27 ∨ i.op = 28 ∨ i.op = 29 ∨ i.op = 30 ∨ i.op = 31 ∨ i.op = 32 ∨ i.op = 60 ∨ i.op = 61 ∨ i.op = 62 ∨ i.op = 63 ∨ i.op = 64 ∨ i.op = 65 ∨ i.op = 70 ∨ i.op = 71 ∨ i.op = 72 := by have := ho.op; unfold Named at this; omega
  rcases hc with e | e | e | e | e | e | e | e | e | e | e | e | e | e | e | e | e | e | e | e | e | e | e | e | e | e | e | e | e | e | e | e | e | e
  · skip
    rw [show stepI P i s = stp0 s by unfold stepI; rw [e]; rfl]
    exact h1.at h2
  · skip
    rw [show stepI P i s = stp1 i s by unfold stepI; rw [e]; rfl]
    exact h1.lay _ ho.im h2
  · skip
    rw [show stepI P i s = stp2 i s by unfold stepI; rw [e]; rfl]
    exact h1.lay _ (hs.r _) h2
  · skip
    rw [show stepI P i s = stp3 i s by unfold stepI; rw [e]; rfl]
    exact h1.lay _ (wd_wrap _) h2
  · skip
    rw [show stepI P i s = stp4 i s by unfold stepI; rw [e]; rfl]
    exact h1.lay _ (wd_wrap _) h2
  · skip
    rw [show stepI P i s = stp5 i s by unfold stepI; rw [e]; rfl]
    exact h1.lay _ (wd_wrap _) h2
  · skip
    rw [show stepI P i s = stp6 i s by unfold stepI; rw [e]; rfl]
    exact h1.lay _ (wd_bits _ _ _) h2
  · skip
    rw [show stepI P i s = stp7 i s by unfold stepI; rw [e]; rfl]
    exact h1.lay _ (wd_bits _ _ _) h2
  · skip
    rw [show stepI P i s = stp8 i s by unfold stepI; rw [e]; rfl]
    exact h1.lay _ (wd_bits _ _ _) h2
  · skip
    rw [show stepI P i s = stp9 i s by unfold stepI; rw [e]; rfl]
    exact h1.lay _ (wd_wrap _) h2
  · skip
    rw [show stepI P i s = stp10 i s by unfold stepI; rw [e]; rfl]
    exact h1.lay _ (wd_div (hs.r _) _) h2
  · skip
    rw [show stepI P i s = stp11 i s by unfold stepI; rw [e]; rfl]
    exact h1.lay _ (wd_wrap _) h2
  · skip
    rw [show stepI P i s = stp12 i s by unfold stepI; rw [e]; rfl]
    exact h1.lay _ (wd_01 _) h2
  · skip
    rw [show stepI P i s = stp13 i s by unfold stepI; rw [e]; rfl]
    exact h1.lay _ (wd_01 _) h2
  · skip
    rw [show stepI P i s = stp20 i s by unfold stepI; rw [e]; rfl]
    have hj : i.i.toNat ≤ 400 := by have := ho.jm ⟨by omega, by omega⟩; have := ho.im; omega
    exact h1.at hj
  · skip
    rw [show stepI P i s = stp21 i s by unfold stepI; rw [e]; rfl]
    have hj : i.i.toNat ≤ 400 := by have := ho.jm ⟨by omega, by omega⟩; have := ho.im; omega
    unfold stp21
    refine h1.at ?_
    split
    · exact hj
    · exact h2
  · skip
    rw [show stepI P i s = stp22 i s by unfold stepI; rw [e]; rfl]
    have hj : i.i.toNat ≤ 400 := by have := ho.jm ⟨by omega, by omega⟩; have := ho.im; omega
    unfold stp22
    refine h1.at ?_
    split
    · exact hj
    · exact h2
  · skip
    rw [show stepI P i s = stp23 i s by unfold stepI; rw [e]; rfl]
    have hj : i.i.toNat ≤ 400 := by have := ho.jm ⟨by omega, by omega⟩; have := ho.im; omega
    unfold stp23
    refine h1.at ?_
    split
    · exact hj
    · exact h2
  · skip
    rw [show stepI P i s = stp24 i s by unfold stepI; rw [e]; rfl]
    have hj : i.i.toNat ≤ 400 := by have := ho.jm ⟨by omega, by omega⟩; have := ho.im; omega
    unfold stp24
    refine h1.at ?_
    split
    · exact hj
    · exact h2
  · skip
    rw [show stepI P i s = stp27 i s by unfold stepI; rw [e]; rfl]
    exact h1.end _ _ (hs.r _)
  · skip
    rw [show stepI P i s = stp28 i s by unfold stepI; rw [e]; rfl]
    exact h1.end _ _ ho.im
  · skip
    rw [show stepI P i s = stp29 i s by unfold stepI; rw [e]; rfl]
    cases hi : s.inp with
    | nil =>
      rw [show stp29 i s = { s with e := 6, v := 0, f := 0 } by simp [stp29, hi]]
      exact h1.end _ _ wd0
    | cons x L =>
      rw [show stp29 i s = { s with inp := L, r := updR s.r i.a x, p := s.p + 1 } by simp [stp29, hi]]
      exact ⟨h1.g, h2, wd_upd h1.r _ (hs.inp x (by simp [hi])), h1.st, h1.fr, fun y hy => hs.inp y (by simp [hi, hy]), by have := hs.il; rw [hi] at this; simp at this; show L.length ≤ _; omega, h1.out, h1.ol, h1.tl, h1.v⟩
  · skip
    rw [show stepI P i s = stp30 i s by unfold stepI; rw [e]; rfl]
    refine ⟨h1.g, h2, h1.r, h1.st, h1.fr, h1.inp, h1.il, fun y hy => ?_, by have := hs.ol; simp [stp30]; omega, h1.tl, h1.v⟩
    simp only [stp30, List.mem_append, List.mem_singleton] at hy
    rcases hy with hy | rfl
    · exact hs.out y hy
    · exact hs.r _
  · skip
    rw [show stepI P i s = stp31 P i s by unfold stepI; rw [e]; rfl]
    unfold stp31
    split
    · exact h1.end _ _ wd0
    · rename_i hd
      have hcl := ho.cl e
      have him := ho.im.1
      have hgl : i.i.toNat < P.gates.length := by omega
      have hgc : i.i.toNat < P.code.length := by omega
      have hge := (ok.gate _ hgl hgc).1
      have hr4 := (ok.row _ (List.getElem_mem hgc)).1.2
      refine ⟨hgc, ?_, wd_ent _ _ (rr _) (fun k => hs.r (k + 1)), ?_, fun f hf => ?_, h1.inp, h1.il, h1.out, h1.ol, h1.tl, h1.v⟩
      · show (P.gate i.i.toNat).e ≤ 400
        rw [P.gate_at _ hgl]
        omega
      · show ((s.st ++ [_]).length : Int) ≤ P.dep
        rw [List.length_append]
        simp
        omega
      · rcases List.mem_append.1 hf with hf | hf
        · exact hs.fr f hf
        · rw [List.mem_singleton.1 hf]
          exact ⟨hs.g, h2, hs.r⟩
  · skip
    rw [show stepI P i s = stp32 P s by unfold stepI; rw [e]; rfl]
    have hsl := hs.st
    rcases List.eq_nil_or_concat s.st with hz | ⟨L, t, hz⟩
    · rw [show stp32 P s = { s with e := 1, v := if (P.gate s.g).s = 0 then 0 else s.r 1, f := 0 } by simp [stp32, hz]]
      refine h1.end _ _ ?_
      split
      · exact wd0
      · exact hs.r _
    · rw [List.concat_eq_append] at hz
      rw [show stp32 P s = { s with g := t.g, p := t.p, r := entR ⟨t.p, 0, 0, t.r⟩ (P.gate s.g).s (fun k => s.r (k + 1)), st := L } by simp [stp32, hz]]
      have ht := hs.fr t (by simp [hz])
      exact ⟨ht.1, ht.2.1, wd_ent _ _ ht.2.2 (fun k => hs.r (k + 1)), by rw [hz, List.length_append] at hsl; simp at hsl; show (L.length : Int) ≤ P.dep; omega, fun f hf => hs.fr f (by simp [hz, hf]), h1.inp, h1.il, h1.out, h1.ol, h1.tl, h1.v⟩
  · skip
    rw [show stepI P i s = stp60 i s by unfold stepI; rw [e]; rfl]
    unfold stp60
    split
    · exact h1.end _ _ wd0
    · exact ⟨h1.g, h2, wd_upd h1.r _ (wd_ld _ _ _ (by omega)), h1.st, h1.fr, h1.inp, h1.il, h1.out, h1.ol, by have := hs.tl; simp; omega, h1.v⟩
  · skip
    rw [show stepI P i s = stp61 i s by unfold stepI; rw [e]; rfl]
    unfold stp61
    split
    · exact h1.end _ _ wd0
    · exact ⟨h1.g, h2, wd_upd h1.r _ (wd_ld _ _ _ (by omega)), h1.st, h1.fr, h1.inp, h1.il, h1.out, h1.ol, by have := hs.tl; simp; omega, h1.v⟩
  · skip
    rw [show stepI P i s = stp62 i s by unfold stepI; rw [e]; rfl]
    unfold stp62
    split
    · exact h1.end _ _ wd0
    · exact ⟨h1.g, h2, h1.r, h1.st, h1.fr, h1.inp, h1.il, h1.out, h1.ol, by have := hs.tl; simp; omega, h1.v⟩
  · skip
    rw [show stepI P i s = stp63 i s by unfold stepI; rw [e]; rfl]
    unfold stp63
    split
    · exact h1.end _ _ wd0
    · exact ⟨h1.g, h2, h1.r, h1.st, h1.fr, h1.inp, h1.il, h1.out, h1.ol, by have := hs.tl; simp; omega, h1.v⟩
  · skip
    rw [show stepI P i s = stp64 i s by unfold stepI; rw [e]; rfl]
    unfold stp64
    split
    · exact h1.end _ _ wd0
    · exact ⟨h1.g, h2, wd_upd h1.r _ (wd_ld _ _ _ (by omega)), h1.st, h1.fr, h1.inp, h1.il, h1.out, h1.ol, by have := hs.tl; simp; omega, h1.v⟩
  · skip
    rw [show stepI P i s = stp65 i s by unfold stepI; rw [e]; rfl]
    unfold stp65
    split
    · exact h1.end _ _ wd0
    · exact ⟨h1.g, h2, h1.r, h1.st, h1.fr, h1.inp, h1.il, h1.out, h1.ol, by have := hs.tl; simp; omega, h1.v⟩
  · skip
    rw [show stepI P i s = stp70 i s by unfold stepI; rw [e]; rfl]
    unfold stp70
    split
    · exact h1.at h2
    · exact h1.end _ _ (wd_wrap _)
  · skip
    rw [show stepI P i s = stp71 i s by unfold stepI; rw [e]; rfl]
    unfold stp71
    split
    · exact h1.at h2
    · exact h1.end _ _ (wd_wrap _)
  · skip
    rw [show stepI P i s = stp72 i s by unfold stepI; rw [e]; rfl]
    exact h1.end _ _ (wd_wrap _)
/-- What one step does. -/
def stepM (P : Pr) (s : Fm) : Fm := match (P.code.getD s.g [])[s.p]? with | some i => stepI P i s | none => { s with e := 7, v := 0, f := 8 }
theorem goes_all (P : Pr) (ok : P.Ok) (s : Fm) (hs : s.Ok P) : Goes P s (stepM P s) := by
  have hg := hs.g
  have e1 : P.code.getD s.g [] = P.code[s.g] := by simp [hg]
  by_cases hp : s.p < P.code[s.g].length
  · have hi : stepM P s = stepI P P.code[s.g][s.p] s := by
      unfold stepM
      rw [e1, List.getElem?_eq_getElem hp]
    rw [hi]
    have hr := ok.row _ (List.getElem_mem hg)
    have ho := hr.2 _ (List.getElem_mem hp)
    exact goes_of P.code[s.g][s.p] hg hp rfl ho.op (fun B V a l h => step_all P ok s _ hs ⟨_, hr.1.2, ho⟩ B V a l h)
  · have hi : stepM P s = { s with e := 7, v := 0, f := 8 } := by
      unfold stepM
      rw [e1, List.getElem?_eq_none (by omega)]
    rw [hi]
    exact fun B W a l h => do_out B W a P s l h hg (by omega)
theorem okn_stepM (P : Pr) (ok : P.Ok) (rr : P.Rr) (s : Fm) (n : Nat) (hs : s.Okn P n) : (stepM P s).Okn P (n + 1) := by
  have hg := hs.g
  have e1 : P.code.getD s.g [] = P.code[s.g] := by simp [hg]
  by_cases hp : s.p < P.code[s.g].length
  · have hi : stepM P s = stepI P P.code[s.g][s.p] s := by
      unfold stepM
      rw [e1, List.getElem?_eq_getElem hp]
    rw [hi]
    have hr := ok.row _ (List.getElem_mem hg)
    exact okn_step P ok rr s _ n _ hs hr.1.2 (hr.2 _ (List.getElem_mem hp)) hp
  · have hi : stepM P s = { s with e := 7, v := 0, f := 8 } := by
      unfold stepM
      rw [e1, List.getElem?_eq_none (by omega)]
    rw [hi]
    exact (hs.mono (Nat.le_succ n)).end _ _ wd0
/-- So many steps, until it ends. -/
def stepsM (P : Pr) (s : Fm) : Nat → Fm
  | 0 => s
  | k + 1 => if (stepsM P s k).e = 0 then stepM P (stepsM P s k) else stepsM P s k
theorem okn_stepsM (P : Pr) (ok : P.Ok) (rr : P.Rr) (s : Fm) (n : Nat) (hs : s.Okn P n) (k : Nat) : (stepsM P s k).Okn P (n + k) := by
  induction k with
  | zero => exact hs
  | succ k ih =>
    unfold stepsM
    split
    · exact okn_stepM P ok rr _ _ ih
    · exact ih.mono (by omega)
theorem stepsM_over (P : Pr) (s : Fm) (k j : Nat) (h : (stepsM P s k).e ≠ 0) : stepsM P s (k + j) = stepsM P s k := by
  induction j with
  | zero => rfl
  | succ j ih =>
    show (if (stepsM P s (k + j)).e = 0 then stepM P (stepsM P s (k + j)) else stepsM P s (k + j)) = _
    rw [ih, if_neg h]
/-- Where the steps of a run stop. -/
theorem stops (P : Pr) (s : Fm) (n : Nat) : ∃ m, m ≤ n ∧ (∀ k, k < m → (stepsM P s k).e = 0) ∧ (m = n ∨ (stepsM P s m).e ≠ 0) ∧ stepsM P s m = stepsM P s n := by
  induction n with
  | zero => exact ⟨0, Nat.le_refl _, fun k h => absurd h (Nat.not_lt_zero _), .inl rfl, rfl⟩
  | succ n ih =>
    obtain ⟨m, h1, h2, h3, h4⟩ := ih
    by_cases he : (stepsM P s m).e = 0
    · have hmn : m = n := by
        rcases h3 with q | q
        · exact q
        · exact absurd he q
      subst hmn
      refine ⟨m + 1, Nat.le_refl _, fun k hk => ?_, .inl rfl, rfl⟩
      by_cases hkm : k < m
      · exact h2 k hkm
      · rw [show k = m by omega]
        exact he
    · refine ⟨m, by omega, h2, .inr he, ?_⟩
      rw [h4]
      rw [h4] at he
      exact (stepsM_over P s n 1 he).symm
theorem steps_goes (P : Pr) (ok : P.Ok) (rr : P.Rr) (s : Fm) (c n m : Nat) (hs : s.Okn P c) (hn : c + n ≤ 1000000) (hm : m ≤ n) (h0 : ∀ k, k < m → (stepsM P s k).e = 0) : ∀ k, k < m → Goes P (stepsM P s k) (stepsM P s (k + 1)) := by
  intro k hk
  have e : stepsM P s (k + 1) = stepM P (stepsM P s k) := by
    show (if (stepsM P s k).e = 0 then stepM P (stepsM P s k) else stepsM P s k) = _
    rw [if_pos (h0 k hk)]
  rw [e]
  exact goes_all P ok _ ((okn_stepsM P ok rr s c hs k).ok (by omega))
/-- How a run of so much fuel is over. -/
def runM (P : Pr) (s : Fm) (n : Nat) : Fm := if (stepsM P s n).e = 0 then sp (stepsM P s n) else stepsM P s n
def Fm.outc (s : Fm) : Value := .agg #[.int .i64 s.e, .int .u64 s.v, .int .i64 s.f, .int .i64 s.g, .int .i64 s.p]
theorem steps_all (P : Pr) (ok : P.Ok) (rr : P.Rr) (s : Fm) (c n : Nat) (hs : s.Okn P c) (hn : c + n ≤ 1000000) (B : Nat) (W : World) (a : Nat) (l : List Ob) (h : MIn B W a P s l) :
    Calls Try.prog 17 #[.pointer (some ⟨a, 0, none⟩), .int .i64 n] W fun x w' => x = .returned (.tuple #[]) ∧ MIn B w' a P (stepsM P s n) l ∧ Below B W w' := by
  obtain ⟨m, h1, h2, h3, h4⟩ := stops P s n
  rw [← h4]
  exact steps_any B W a P l n m (stepsM P s) h h1 h2 (steps_goes P ok rr s c n m hs hn h1 h2) h3 (by omega)
theorem run_all (P : Pr) (ok : P.Ok) (rr : P.Rr) (s : Fm) (c n : Nat) (hs : s.Okn P c) (hn : c + n ≤ 1000000) (hn2 : n ≤ 100000) (B : Nat) (W : World) (a : Nat) (l : List Ob) (h : MIn B W a P s l) :
    Calls Try.prog 7 #[.pointer (some ⟨a, 0, none⟩), .int .i64 n] W fun x w' => x = .returned (runM P s n).outc ∧ MIn B w' a P (runM P s n) l ∧ Below B W w' := by
  obtain ⟨m, h1, h2, h3, h4⟩ := stops P s n
  unfold runM
  rw [← h4]
  have hG := steps_goes P ok rr s c n m hs hn h1 h2
  by_cases he : (stepsM P s m).e = 0
  · rw [if_pos he]
    exact run_spent B W a P l n m (stepsM P s) h h1 h2 hG h3 hn2 he
  · rw [if_neg he]
    exact run_end B W a P l n m (stepsM P s) h h1 h2 hG h3 hn2 he
end Z
end Go.Proofs.Ytimiofkiadlnbaa
