import Derived.Test.YthmlkcglglcljaaGreatDoorK44
namespace Go.Proofs.YthmlkcglglcljaaGreatDoor
namespace C
open Go.RowKit
open T (Sep Ob Kp Mf TgIn boxOb Fm Tc Ed Vl Cp Bx tgOb mRow)

section
variable {P : PImg} {n : Nat} {s s' : Ms} {e : Ed}
end
theorem step_oc (P : PImg) (hP : POk P) (s : Ms) (c : Nat) (hs : Okm P c s) (hn : c + 1 ≤ 1000000) (t : Ms) (ht : stepsM P 1 s = t) (B : Nat) (W : World) (a : Nat) (l : List Ob) (h : MIn B W a P s l) :
   Calls Tryz.prog 9 #[.pointer (some ⟨a, 0, none⟩)] W fun x w' => x = .returned (.agg #[.int .i64 t.over.e, .int .u64 t.over.v, .int .i64 t.over.f, .int .i64 t.at_.gate, .int .i64 t.at_.pc]) ∧ MIn B w' a P t l ∧ Below B W w' := by
 rw [← ht]
 exact step_any B W a P s l c hP h hs hn
end C
end Go.Proofs.YthmlkcglglcljaaGreatDoor
