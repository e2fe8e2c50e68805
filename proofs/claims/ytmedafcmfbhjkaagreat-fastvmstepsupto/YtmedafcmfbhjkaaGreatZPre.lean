import Derived.Test.YtmedafcmfbhjkaaGreatP52
import Derived.Test.YtmedafcmfbhjkaaGreatZBgn
import Derived.Test.YtmedafcmfbhjkaaGreatP42
import Derived.Test.YtmedafcmfbhjkaaGreatP36
namespace Go.Proofs.YtmedafcmfbhjkaaGreat
namespace Z
open Go.RowKit
open T (Sep Ob Kp Mf FlIn boxOb)

theorem ent_no (R : Rp) (ca ga : Option Addr) (cc gc : Nat) (mem : List UInt8) (gate : Int) (A : List Int) (sa : Option Addr) (sc : Nat) (w : World) (hP : RpIn w ca ga R) (hA : WIn w sa A) (hAl : A.length ≤ 2000000) (hno : ¬ (R.Ok mem.length ∧ 0 ≤ gate)) :
   Calls Tryz.prog 6 #[.agg #[.slice ca R.code.length cc, .slice ga R.gates.length gc, .string (T.str mem), .int .i64 R.dep], .int .i64 gate, .slice sa A.length sc] w fun x w' => ∃ g A' va vc, x = .returned (.tuple #[.int .i64 g, .slice va (List.length A') vc]) ∧ WIn w' va A' ∧ A'.length ≤ 2000000 ∧ ¬ (R.Ok (T.str mem).size ∧ 0 ≤ g ∧ g < (R.gates.length : Int)) ∧ Below w.heap.size w w' := by
 have hsz : ∀ g : Int, (0 ≤ g → 0 ≤ gate) → ¬ (R.Ok (T.str mem).size ∧ 0 ≤ g ∧ g < (R.gates.length : Int)) := fun g hg q => hno ⟨by have := q.1; rw [T.str_size] at this; exact this, hg q.2.1⟩
 by_cases h : R.gates.length = 0 ∨ gate < 0
 · refine (entry_none R ca ga cc gc (T.str mem) gate (.slice sa A.length sc) w h).mono ?_
   rintro x w' ⟨rfl, g⟩
   exact ⟨gate, A, sa, sc, rfl, hA.below g.below, hAl, hsz gate (fun q => q), g.below⟩
 · have h0 : 0 < R.gates.length := by omega
   have hg : 0 ≤ gate := by omega
   obtain ⟨n, hn, hn2⟩ := ent_n (R.gates[gate.toNat % R.gates.length]'(Nat.mod_lt _ h0)).a
   have q := entry_any R ca ga cc gc (T.str mem) gate.toNat (gate.toNat % R.gates.length) A sa sc w hP hA h0 rfl (Nat.mod_lt _ h0) n hn hn2
   rw [Int.toNat_of_nonneg hg] at q
   refine q.mono ?_
   rintro x w' ⟨v, rfl, ho, hb⟩
   obtain ⟨va, vc, rfl, hw⟩ := own_win ho (entL_len A n).symm
   exact ⟨_, entL A n, va, vc, rfl, hw, by rw [entL_len]; omega, hsz _ (fun _ => hg), hb⟩
theorem ent_ok (R : Rp) (ca ga : Option Addr) (cc gc : Nat) (mem : List UInt8) (gate : Int) (A : List Int) (sa : Option Addr) (sc : Nat) (w : World) (hP : RpIn w ca ga R) (hA : WIn w sa A) (ok : R.Ok mem.length) (h0 : 0 ≤ gate) :
   Calls Tryz.prog 6 #[.agg #[.slice ca R.code.length cc, .slice ga R.gates.length gc, .string (T.str mem), .int .i64 R.dep], .int .i64 gate, .slice sa A.length sc] w fun x w' => ∃ va vc, x = .returned (.tuple #[.int .i64 (gNo R gate : Nat), .slice va (List.length (entL A (aNo R gate))) vc]) ∧ WIn w' va (entL A (aNo R gate)) ∧ Below w.heap.size w w' := by
 obtain ⟨h1, h2, h3, h4, h5⟩ := ok.at gate
 have q := entry_any R ca ga cc gc (T.str mem) gate.toNat (gNo R gate) A sa sc w hP hA ok.n1.1 rfl h1 (aNo R gate) (by omega) (.inl h5)
 rw [Int.toNat_of_nonneg h0] at q
 refine q.mono ?_
 rintro x w' ⟨v, rfl, ho, hb⟩
 obtain ⟨va, vc, rfl, hw⟩ := own_win ho (entL_len A _).symm
 exact ⟨va, vc, rfl, hw, hb⟩
theorem made_st0 (R : Rp) (ca ga : Option Addr) (cc gc : Nat) (mem : List UInt8) (gate : Int) (A : List Int) (va : Option Addr) (vc : Nat) (ia : Option Addr) (ic : Nat) (L : List Int) (w : World) (hP : RpIn w ca ga R) (is : R.Is) (hA : WIn w va (entL A (aNo R gate))) (hI : InL w ia ic L) (hc : R.code.length ≤ 1500000) (hr : ∀ r ∈ R.code, r.length ≤ 2000000) (hg : R.gates.length ≤ 2000000) (hl : L.length ≤ 2000000) (hcap : ∀ a, ia = some a → L.length ≤ ic) (ok : R.Ok mem.length) :
   Calls Tryz.prog 7 #[.agg #[.slice ca R.code.length cc, .slice ga R.gates.length gc, .string (T.str mem), .int .i64 R.dep], .int .i64 (gNo R gate : Nat), .slice va (List.length (entL A (aNo R gate))) vc, .slice ia L.length ic] w fun x w' => ∃ a b, x = .returned (.tuple #[.bool true, .pointer (some ⟨a, 0, none⟩), .pointer (some ⟨b, 0, none⟩)]) ∧ MD w.heap.size w' R.pr a (st0 R gate A L mem) b ⟨ca, ga, cc, gc, .string (T.str mem)⟩ (st0 R gate A L mem) [] ∧ DPg w.heap.size w' ⟨ca, ga, cc, gc, .string (T.str mem)⟩ R.pr ∧ Below w.heap.size w w' := by
 obtain ⟨h1, h2, h3, h4, h5⟩ := ok.at gate
 have q := made_ok R ca ga cc gc mem (gNo R gate) (entL A (aNo R gate)) va vc ia ic L w hP is hA (by rw [entL_len]; omega) hI hc hr hg hl hcap ok h1 (by rw [entL_len]; exact h5)
 unfold st0
 rw [h4]
 rw [entL_len] at q ⊢
 exact q
theorem dstep_oc (P : Pr) (ok : P.Ok) (s : Fm) (n : Nat) (hs : s.Okn P n) (hn : n ≤ 1000000) (hv : s.Vf) (u : Fm) (hu : stepsM P s 1 = u) (B : Nat) (W : World) (b : Nat) (c : Dc) (l : List Ob) (h : DIo B W b c P s s.g s.p l) (hpg : DPg B W c P) :
   Calls Tryz.prog 9 #[.pointer (some ⟨b, 0, none⟩)] W fun x w' => x = .returned (.agg #[.int .i64 u.e, .int .u64 u.v, .int .i64 u.f, .int .i64 u.g, .int .i64 u.p]) ∧ DIo B w' b c P u u.g u.p l ∧ Below B W w' := by
 rw [← hu]
 exact dstep_any P ok s n hs hn hv B b c W l h hpg
theorem ps_meas (N k : Nat) (h : k < N) : N - (intOf (Value.int .i64 ((k : Int) + 1))).toNat < N - (intOf (Value.int .i64 (k : Int))).toNat := by
 simp [intOf]
 omega
theorem st0_vf (R : Rp) (gate : Int) (A L : List Int) (mem : List UInt8) : (st0 R gate A L mem).Vf := fun _ => ⟨rfl, rfl⟩
end Z
end Go.Proofs.YtmedafcmfbhjkaaGreat
