/-
  Stage 9, regtype: a slice of four states, built of whole rows.
-/
import Derived.Test.YtbbpbfbifgfjdaaRStAll
import Derived.Great.Walk
namespace Go.Proofs.Ytbbpbfbifgfjdaa
namespace R
open Go.RowKit

/-- A row laid into an array at 'o'. -/
def layA (cs : Array Value) (o : Nat) (row : List Value) : Array Value := row.zipIdx.foldl (fun cs x => cs.setIfInBounds (o + x.snd) x.fst) cs
theorem layA_size (cs : Array Value) (o : Nat) (row : List Value) : (layA cs o row).size = cs.size := fold_size o row 0 cs
theorem layA_at (cs : Array Value) (o : Nat) (row : List Value) (i : Nat) (h : o + row.length ≤ cs.size) : (layA cs o row)[i]? = if o ≤ i ∧ i < o + row.length then row[i - o]? else cs[i]? := by
  have := fold_at o row 0 cs i (by omega)
  simpa [layA] using this
theorem fill_cons (place : Nat → Option (Nat × Nat)) (cs : Array Value) (i off size : Nat) (row : List Value) (rest : List (Nat × Value)) (hp : place i = some (off, size)) (hs : row.length = size) (ho : off + size ≤ cs.size) :
    Instr.fill place cs ((i, .agg row.toArray) :: rest) = Instr.fill place (layA cs off row) rest := by
  rw [Instr.fill, hp]
  have e : (Value.agg row.toArray).cells = row.toArray := rfl
  simp only [e, List.size_toArray, hs]
  rw [if_neg (by simp; omega)]
  congr 1
  unfold layA
  simp
theorem fill4 (place : Nat → Option (Nat × Nat)) (cs : Array Value) (n : Nat) (a b c d : List Value) (hp : ∀ i, place i = some (i * n, n)) (hc : cs.size = 4 * n) (ha : a.length = n) (hb : b.length = n) (hcc : c.length = n) (hd : d.length = n) :
    Instr.fill place cs [(0, .agg a.toArray), (1, .agg b.toArray), (2, .agg c.toArray), (3, .agg d.toArray)] = some (a ++ b ++ c ++ d).toArray := by
  rw [fill_cons place _ 0 _ _ a _ (hp 0) ha (by omega), fill_cons place _ 1 _ _ b _ (hp 1) hb (by rw [layA_size]; omega), fill_cons place _ 2 _ _ c _ (hp 2) hcc (by rw [layA_size, layA_size]; omega), fill_cons place _ 3 _ _ d _ (hp 3) hd (by rw [layA_size, layA_size, layA_size]; omega), Instr.fill]
  congr 1
  apply Array.ext_getElem?
  intro i
  have e : (a ++ b ++ c ++ d).toArray[i]? = (a ++ b ++ c ++ d)[i]? := by simp
  rw [e, layA_at _ _ _ _ (by rw [layA_size, layA_size, layA_size]; omega), layA_at _ _ _ _ (by rw [layA_size, layA_size]; omega), layA_at _ _ _ _ (by rw [layA_size]; omega), layA_at _ _ _ _ (by omega)]
  by_cases q3 : 3 * n ≤ i
  · rw [List.getElem?_append_right (by simp; omega)]
    by_cases q4 : i < 4 * n
    · rw [if_pos (by omega)]
      congr 1
      simp
      omega
    · rw [if_neg (by omega), if_neg (by omega), if_neg (by omega), if_neg (by omega), Array.getElem?_eq_none (by omega), List.getElem?_eq_none (by simp; omega)]
  · rw [if_neg (by omega), List.getElem?_append_left (by simp; omega)]
    by_cases q2 : 2 * n ≤ i
    · rw [if_pos (by omega), List.getElem?_append_right (by simp; omega)]
      congr 1
      simp
      omega
    · rw [if_neg (by omega), List.getElem?_append_left (by simp; omega)]
      by_cases q1 : 1 * n ≤ i
      · rw [if_pos (by omega), List.getElem?_append_right (by omega)]
        congr 1
        omega
      · rw [if_neg (by omega), if_pos (by omega), List.getElem?_append_left (by omega)]
        congr 1
        omega
/-- What a slice of four states is built of. -/
theorem built4 (la lb lc ld : Bool) (A B C D : List RT) (hA : A.length = 16) (hB : B.length = 16) (hC : C.length = 16) (hD : D.length = 16) :
    Try.prog.builtSlice 47 4 [(0, .agg (stC la A).toArray), (1, .agg (stC lb B).toArray), (2, .agg (stC lc C).toArray), (3, .agg (stC ld D).toArray)] = some (stC la A ++ stC lb B ++ stC lc C ++ stC ld D).toArray := by
  have hs := info47
  have hz : ((Try.prog.info? 47).bind (·.zero)).isSome = true := by kernel_rfl
  unfold Program.builtSlice
  cases hi : Try.prog.info? 47 with
  | none => rw [hi] at hs; cases hs
  | some ie =>
    rw [hi] at hs hz
    simp only [Option.map_some, Option.some.injEq] at hs
    simp only [Option.bind_some] at hz
    cases hq : ie.zero with
    | none => rw [hq] at hz; cases hz
    | some z =>
      simp only [hs, hq]
      rw [if_neg (by decide)]
      exact fill4 _ _ 193 _ _ _ _ (fun i => rfl) (by simp) (stC_len hA) (stC_len hB) (stC_len hC) (stC_len hD)
end R
end Go.Proofs.Ytbbpbfbifgfjdaa
