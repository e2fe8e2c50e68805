import Derived.Test.YtdlcphinjnnhcaaGreatDoorK06
import Derived.Test.YtdlcphinjnnhcaaGreatDoorKTBase
import Derived.Test.YtdlcphinjnnhcaaGreatDoorChecked
import Derived.Maps.OwnSet
import Derived.Test.YtdlcphinjnnhcaaGreatDoorK05
import Derived.Laws.EntriesVeiled
import Derived.Test.YtdlcphinjnnhcaaGreatDoorK03
import Derived.Deep.RegionHeld3
namespace Go.Proofs.YtdlcphinjnnhcaaGreatDoor
namespace Bd
open Go.RowKit
open T (Kp)
open Go.Maps (Keyed)

structure Hz (p : Prop) : Prop where
 out : p
def tokR (v : Value) : Option (DataW Value × List MemPlace) := some (.held v, [])
def ky (x : Nat) : Lit := .int .i64 x
structure MpIn {ε : Type} (w : World) (b n : Nat) (enc : ε → Value) (M : Nat → Option ε) : Prop where
 go : ∃ D : DataW Value, w.ownsMap Tryz.prog 3 tokR b n D ∧ (∀ x : Nat, Maps.has D (ky x) = (M x).isSome) ∧ ∀ (x : Nat) e z, M x = some e → D.atKey (ky x) z = .held (enc e)
section
variable {ε : Type} {w w' : World} {b n : Nat} {enc : ε → Value} {M : Nat → Option ε}
theorem ky_ne {x y : Nat} (h : y ≠ x) : ky y ≠ ky x := by
 intro e
 unfold ky at e
 injection e with _ e
 omega
theorem ky_of {x : Nat} (h : x < 4611686018427387904) : keyOf Tryz.prog 3 (.int .i64 x) = some (ky x) := Maps.keyOf_int_mk (by kernel_rfl) (WalkArith.wf_i64 (by omega))
theorem ky_keyed : Keyed Tryz.prog 3 := Maps.int_keyed (q := .i64) (by kernel_rfl)
theorem mp_made (w : World) (enc : ε → Value) : MpIn (w.alloc (.map #[] 0)) w.heap.size 0 enc (fun _ => none) :=
 ⟨_, World.ownsMap_made w Tryz.prog 3 tokR, fun _ => rfl, fun _ _ _ h => (by cases h)⟩
theorem MpIn.lt (h : MpIn w b n enc M) : b < w.heap.size := by
 obtain ⟨D, h1, _⟩ := h.go
 exact h1.lt
theorem MpIn.block (h : MpIn w b n enc M) (hb : w'.heap[b]? = w.heap[b]?) : MpIn w' b n enc M := by
 obtain ⟨D, ⟨es, clock, h1, r⟩, h2⟩ := h.go
 exact ⟨D, ⟨es, clock, hb.trans h1, r⟩, h2⟩
theorem MpIn.keep {S : Nat → Prop} (h : MpIn w b n enc M) (hk : Kp S w w') (hd : ¬ S b) : MpIn w' b n enc M := h.block (hk.block b h.lt hd)
theorem MpIn.below (h : MpIn w b n enc M) (hb : Below w.heap.size w w') : MpIn w' b n enc M := h.block (hb.block b h.lt)
theorem MpIn.look (h : MpIn w b n enc M) {t e : TypeId} (ht : Tryz.prog.underlying t = some (.map 3 e)) {z : Value} (hz : (zeroValue e).run Tryz.prog w = .ok z w) (x : Nat) (hx : x < 4611686018427387904) :
   (Instr.lookup t (.map (some b)) (.int .i64 x) true).run Tryz.prog w = .ok (.tuple #[match M x with | some e => enc e | none => z, .bool (M x).isSome]) w := by
 obtain ⟨D, h1, h2, h3⟩ := h.go
 obtain ⟨v, ps, hr, hv⟩ := h1.look_ok ky_keyed ht hz (zd := .held z) (zp := []) rfl (ky_of hx)
 rw [hr, h2]
 replace hv : DataW.held v = D.atKey (ky x) (.held z) := (Prod.mk.inj (Option.some.inj hv)).1
 cases hm : M x with
 | none =>
   have hh := h2 x
   rw [hm] at hh
   rw [Maps.atKey_of_not_has hh] at hv
   rw [DataW.held.inj hv]
 | some e =>
   rw [h3 x e _ hm] at hv
   rw [DataW.held.inj hv]
theorem MpIn.put (h : MpIn w b n enc M) {t e : TypeId} (ht : Tryz.prog.underlying t = some (.map 3 e)) (hn : n < maxLen) (x : Nat) (hx : x < 4611686018427387904) (y : ε) :
   ∃ w', (Instr.mapUpdate t (.map (some b)) (.int .i64 x) (enc y)).run Tryz.prog w = .ok () w' ∧ MpIn w' b (n + 1) enc (fun q => if q = x then some y else M q) ∧ Kp (fun k => k = b) w w' := by
 obtain ⟨D, h1, h2, h3⟩ := h.go
 obtain ⟨w', hr, h4, h5⟩ := h1.store (d := .held (enc y)) (ps := []) ky_keyed ht hn (ky_of hx) rfl
 have hg := h5.grown
 refine ⟨w', hr, ⟨_, h4, fun q => ?_, fun q e2 z hq => ?_⟩, ⟨hg.os, hg.tape, hg.output, hg.size, fun k hk hn => hg.block k hk (fun e => hn (by injection e))⟩⟩
 · by_cases e : q = x
   · subst e
     rw [if_pos rfl, Maps.has_put_same h1.isMap (by unfold ky; simp [WideAt.IsKeyLit])]; rfl
   · rw [if_neg e, Maps.has_put_other (ky_ne e), h2]
 · by_cases e : q = x
   · subst e
     rw [if_pos rfl] at hq
     have hq2 := Option.some.inj hq
     subst hq2
     exact Maps.atKey_put_same h1.isMap (by unfold ky; simp [WideAt.IsKeyLit]) _ _
   · rw [if_neg e] at hq
     rw [Maps.atKey_put_other (ky_ne e)]
     exact h3 q e2 z hq
end
end Bd
end Go.Proofs.YtdlcphinjnnhcaaGreatDoor


namespace Go.Proofs.YtdlcphinjnnhcaaGreatDoor
namespace Bd
open Go.RowKit
open T (Kp)

theorem drewNb (w : World) (n : Nat) : Below w.heap.size w (w.drewN n) := by
 induction n with
 | zero => exact Below.refl _ _
 | succ n ih => exact Below.drew ih
structure Pl where
 kA : Nat
 kF : Nat
 kQ : Nat
 b : Nat
 fv : Value
 qf : Nat
def pv (k : Nat) : Value := .pointer (some ⟨k, 0, none⟩)
def Pl.qv (p : Pl) : Value := .func (.func p.qf) #[] #[pv p.kA, pv p.kF, pv p.kQ]
structure Rem {ε : Type} (p : Pl) (enc : ε → Value) (w : World) (nn : Nat) (M : Nat → Option ε) : Prop where
 a : At w p.kA #[.map (some p.b)]
 f : At w p.kF #[p.fv]
 q : At w p.kQ #[p.qv]
 m : MpIn w p.b nn enc M
theorem at_keep {S : Nat → Prop} {w w' : World} {k : Nat} {cs : Array Value} (h : At w k cs) (hk : Kp S w w') (hn : ¬ S k) : At w' k cs :=
 ⟨Nat.lt_of_lt_of_le h.1 hk.size, fun o => by
   have hb := hk.block k h.1 hn
   rw [← h.2.1 o]; simp only [World.cell?, hb], fun o => by
   have hb := hk.block k h.1 hn
   rw [← h.2.2 o]; simp only [World.frozen?, hb]⟩
theorem kp_sets (W : World) (k : Nat) : ∀ (vs : List Value) (o : Nat), Kp (fun q => q = k) W (W.setCells k o vs) := fun vs => by
 induction vs generalizing W with
 | nil => exact fun _ => Kp.refl _ _
 | cons v vs ih => exact fun o => (Kp.set (S := fun q => q = k) W ⟨k, o, none⟩ v rfl).trans (ih (W.setCell ⟨k, o, none⟩ v) (o + 1)) (fun _ q => .inl q)
theorem at_map {ε : Type} {w : World} {k b n : Nat} {v : Value} {enc : ε → Value} {M : Nat → Option ε} (h : At w k #[v]) (g : MpIn w b n enc M) : k ≠ b := by
 rintro rfl
 obtain ⟨D, ⟨es, clock, hb, _⟩, _⟩ := g.go
 have := h.2.1 0
 simp [World.cell?, hb] at this
section
variable {ε : Type} {p : Pl} {enc : ε → Value} {w w' : World} {nn nn' : Nat} {M M' : Nat → Option ε}
theorem Rem.turn (h : Rem p enc w nn M) (hk : Kp (fun k => k = p.b) w w') (hm : MpIn w' p.b nn' enc M') : Rem p enc w' nn' M' :=
 ⟨at_keep h.a hk (at_map h.a h.m), at_keep h.f hk (at_map h.f h.m), at_keep h.q hk (at_map h.q h.m), hm⟩
theorem Rem.below (h : Rem p enc w nn M) (hb : Below w.heap.size w w') : Rem p enc w' nn M :=
 ⟨at_keep h.a (Kp.of_below (S := fun _ => False) hb) id, at_keep h.f (Kp.of_below (S := fun _ => False) hb) id, at_keep h.q (Kp.of_below (S := fun _ => False) hb) id, h.m.below hb⟩
theorem Rem.above {M0 : Nat → Option ε} {n0 : Nat} {w0 : World} {S : Nat → Prop} (h : Rem p enc w nn M) (h0 : Rem p enc w0 n0 M0) (hk : Kp S w w') (hS : ∀ k, S k → w0.heap.size ≤ k) : Rem p enc w' nn M :=
 ⟨at_keep h.a hk (fun q => Nat.not_lt.2 (hS _ q) h0.a.1), at_keep h.f hk (fun q => Nat.not_lt.2 (hS _ q) h0.f.1), at_keep h.q hk (fun q => Nat.not_lt.2 (hS _ q) h0.q.1), h.m.keep hk (fun q => Nat.not_lt.2 (hS _ q) h0.m.lt)⟩
end
def Aft {α : Type} (p : Pl) (enc : Option α → Value) (nx : Nat → List Nat) (f : Nat → List α → Option α) (U : List Nat) (S : Nat → Prop) (M : Nat → Option (Option α)) (nn : Nat) (w w' : World) : Prop :=
 ∃ M' nn', Rem p enc w' nn' M' ∧ Memo nx f U S M' ∧ More M M' ∧ nn' + 2 * left U M' ≤ nn + 2 * left U M ∧ Kp (fun k => k = p.b) w w'
section
variable {α : Type}
def AskC (E : World → Prop) (p : Pl) (enc : Option α → Value) (tup : Option α → Value) (nx : Nat → List Nat) (f : Nat → List α → Option α) (U : List Nat) (d : Nat) : Prop :=
 ∀ (w : World) (n : Nat) (S : Nat → Prop) (M : Nat → Option (Option α)) (nn : Nat), E w → Rem p enc w nn M → Memo nx f U S M → (∀ q, S q → Anc nx f q n) → n ∈ U → left U M ≤ d → nn + 2 * left U M ≤ 1000000 →
   Calls Tryz.prog p.qf #[.int .i64 n, pv p.kA, pv p.kF, pv p.kQ] w fun r w' => r = .returned (tup (ev nx f U n)) ∧ Aft p enc nx f U S M nn w w'
def FindC (ff : Nat) (caps : Array Value) (E : World → Prop) (p : Pl) (enc : Option α → Value) (tup : Option α → Value) (nx : Nat → List Nat) (f : Nat → List α → Option α) (U : List Nat) (d : Nat) : Prop :=
 ∀ (w : World) (n : Nat) (S : Nat → Prop) (M : Nat → Option (Option α)) (nn : Nat), E w → Rem p enc w nn M → Memo nx f U (fun x => S x ∨ x = n) M → (∀ q, S q → Anc nx f q n) → n ∈ U → left U M ≤ d → nn + 2 * left U M ≤ 1000000 →
   Calls Tryz.prog ff (#[.int .i64 n, p.qv] ++ caps) w fun r w' => r = .returned (tup (ev nx f U n)) ∧ Aft p enc nx f U (fun x => S x ∨ x = n) M nn w w'
end
theorem wpList_put {ε : Type} {w : World} {ops : Array Oper} {rest : List Oper} {o : Oper} {a : Act} {Q : Exit → Act → World → Prop} (hg : o.guard = none) (m x v : Operand) (t e : TypeId) (hop : o.op = Op.mapUpdate t m x v) (ht : Tryz.prog.underlying t = some (.map 3 e))
   (b n : Nat) (enc : ε → Value) (M : Nat → Option ε) (hm : a.eval m = .map (some b)) (h : MpIn w b n enc M) (hn : n < maxLen) (k : Nat) (hk : k < 4611686018427387904) (y : ε) (hx : a.eval x = .int .i64 k) (hv : a.eval v = enc y)
   (hK : ∀ w', MpIn w' b (n + 1) enc (fun q => if q = k then some y else M q) → Kp (fun k => k = b) w w' → wpList Tryz.prog ops Q rest (a.put o.dst undef) w') : wpList Tryz.prog ops Q (o :: rest) a w := by
 refine wpList_plain hg fun K' hK' => ?_
 obtain ⟨w', hrun, r1, r2⟩ := h.put ht hn k hk y
 unfold Oper.wp
 simp [execOp, hop, hm, hx, hv, hrun, Result.andThen]
 exact hK' _ _ (hK w' r1 r2)
end Bd
end Go.Proofs.YtdlcphinjnnhcaaGreatDoor


namespace Go.Proofs.YtdlcphinjnnhcaaGreatDoor
set_option maxRecDepth 100000
set_option maxHeartbeats 40000000
namespace F
open Go.RowKit
open T

def wayN (op : Int) : Int := if op = 20 then 1 else if op = 21 ∨ op = 22 ∨ op = 23 ∨ op = 24 then 2 else if op = 26 then 3 else if op = 27 ∨ op = 28 ∨ op = 32 then 4 else 0
theorem wayOf_any (op : Int) (w : World) : Calls Tryz.prog 90 #[.int .u8 op] w fun e w' => e = .returned (.int .i64 (wayN op)) ∧ w' = w := by
 by_cases h : op = 20 ∨ op = 21 ∨ op = 22 ∨ op = 23 ∨ op = 24 ∨ op = 26 ∨ op = 27 ∨ op = 28 ∨ op = 32
 · rcases h with rfl | rfl | rfl | rfl | rfl | rfl | rfl | rfl | rfl <;>
   · go_enter Tryz.func90, Tryz.ntmps90
     go_wp2_with fail
     go_ret
     exact ⟨rfl, rfl⟩
 · simp only [not_or] at h
   obtain ⟨h1, h2, h3, h4, h5, h6, h7, h8, h9⟩ := h
   have e0 : wayN op = 0 := by simp [wayN, *]
   rw [e0]
   have e1 : (op == 20) = false := by simpa using h1
   have e2 : (op == 21) = false := by simpa using h2
   have e3 : (op == 22) = false := by simpa using h3
   have e4 : (op == 23) = false := by simpa using h4
   have e5 : (op == 24) = false := by simpa using h5
   have e6 : (op == 26) = false := by simpa using h6
   have e7 : (op == 27) = false := by simpa using h7
   have e8 : (op == 28) = false := by simpa using h8
   have e9 : (op == 32) = false := by simpa using h9
   clear h1 h2 h3 h4 h5 h6 h7 h8 h9
   go_enter Tryz.func90, Tryz.ntmps90
   go_wp2_with fail
   go_ret
   exact ⟨rfl, rfl⟩
def tgtB (wy : Int) : Bool := decide (wy = 1) || decide (wy = 2)
def thB (n : Nat) (pc : Int) : Bool := decide (0 ≤ pc) && decide (pc < n)
theorem there_any (a : Option Addr) (n cap : Nat) (pc : Int) (w : World) : Calls Tryz.prog 94 #[.slice a n cap, .int .i64 pc] w fun e w' => e = .returned (.bool (thB n pc)) ∧ w' = w := by
 by_cases h1 : 0 ≤ pc
 · by_cases h2 : pc < n
   · have e0 : thB n pc = true := by simp [thB, h1, h2]
     rw [e0]
     go_enter Tryz.func94, Tryz.ntmps94
     go_wp2_with fail
     go_ret
     exact ⟨rfl, rfl⟩
   · have e0 : thB n pc = false := by simp [thB, h2]
     rw [e0]
     go_enter Tryz.func94, Tryz.ntmps94
     go_wp2_with fail
     go_ret
     exact ⟨rfl, rfl⟩
 · have e0 : thB n pc = false := by simp [thB, h1]
   rw [e0]
   go_enter Tryz.func94, Tryz.ntmps94
   go_wp2_with fail
   go_ret
   exact ⟨rfl, rfl⟩
def sv (X room : Nat) : Value := .agg #[.slice (some ⟨X, 0, none⟩) ((room + 63) / 64) ((room + 63) / 64), .int .i64 room]
def SIn (w : World) (X room : Nat) (s : Nat → Bool) : Prop :=
 ∃ W : List Nat, W.length = (room + 63) / 64 ∧ At w X (W.map fun n : Nat => Value.int .u64 n).toArray ∧ (∀ x ∈ W, x < 18446744073709551616) ∧ ∀ n, n < room → s n = Nat.testBit (W[n / 64]?.getD 0) (n % 64)
theorem mayHave_any (X room : Nat) (pc : Int) (w : World) : Calls Tryz.prog 102 #[sv X room, .int .i64 pc] w fun e w' => e = .returned (.bool (thB room pc)) ∧ ∃ o, w' = w.alloc o := by
 unfold sv
 generalize (room + 63) / 64 = nw
 by_cases h1 : 0 ≤ pc
 · by_cases h2 : pc < room
   · have e0 : thB room pc = true := by simp [thB, h1, h2]
     rw [e0]
     go_enter Tryz.func102, Tryz.ntmps102
     go_wp2_with fail
     go_ret
     exact ⟨rfl, _, rfl⟩
   · have e0 : thB room pc = false := by simp [thB, h2]
     rw [e0]
     go_enter Tryz.func102, Tryz.ntmps102
     go_wp2_with fail
     go_ret
     exact ⟨rfl, _, rfl⟩
 · have e0 : thB room pc = false := by simp [thB, h1]
   rw [e0]
   go_enter Tryz.func102, Tryz.ntmps102
   go_wp2_with fail
   go_ret
   exact ⟨rfl, _, rfl⟩
theorem wrap_pow (n : Nat) : IntKind.u64.wrap (2 ^ (n % 64)) = ((2 ^ (n % 64) : Nat) : Int) := by
 rw [IntKind.wrap_u64]
 have h : 2 ^ (n % 64) < 2 ^ 64 := Nat.pow_lt_pow_right (by omega) (Nat.mod_lt _ (by omega))
 have e : ((2 : Int) ^ (n % 64)) = ((2 ^ (n % 64) : Nat) : Int) := by simp
 rw [e]
 generalize 2 ^ (n % 64) = m at *
 omega
theorem bitOf_any (n : Nat) (w : World) (hn : n < 2000000) : Calls Tryz.prog 103 #[.int .i64 n] w fun e w' => e = .returned (.int .u64 (2 ^ (n % 64) : Nat)) ∧ w' = w := by
 have hw := wrap_pow n
 go_enter Tryz.func103, Tryz.ntmps103
 go_wp2_with fail
 rw [hw]
 go_ret
 exact ⟨rfl, rfl⟩
theorem test_and (x k : Nat) : Nat.testBit x k = (((x &&& 2 ^ k : Nat) : Int) != 0) := by
 cases h : x.testBit k with
 | true =>
   have : x &&& 2 ^ k ≠ 0 := by
     intro e
     have := congrArg (fun y => Nat.testBit y k) e
     simp [Nat.testBit_and, h, Nat.testBit_two_pow_self] at this
   generalize x &&& 2 ^ k = y at *
   have : ¬ (y : Int) = 0 := by omega
   simpa using this
 | false =>
   have : x &&& 2 ^ k = 0 := by
     apply Nat.eq_of_testBit_eq
     intro j
     rw [Nat.testBit_and, Nat.zero_testBit]
     by_cases hj : k = j
     · subst hj; rw [h]; rfl
     · rw [Nat.testBit_two_pow_of_ne hj, Bool.and_false]
   rw [this]
   rfl
theorem SIn.word {w : World} {X room n : Nat} {s : Nat → Bool} (h : SIn w X room s) (hn : n < room) : ∃ x : Nat, x < 18446744073709551616 ∧ w.cell? ⟨X, n / 64, none⟩ = some (.int .u64 x) ∧ s n = Nat.testBit x (n % 64) := by
 obtain ⟨W, h1, h2, h3, h4⟩ := h
 have hlt : n / 64 < W.length := by rw [h1]; omega
 refine ⟨W[n / 64], h3 _ (List.getElem_mem hlt), ?_, ?_⟩
 · rw [h2.2.1]
   simp [hlt]
 · rw [h4 n hn]
   simp [hlt]
theorem SIn.lt {w : World} {X room : Nat} {s : Nat → Bool} (h : SIn w X room s) : X < w.heap.size := by
 obtain ⟨W, h1, h2, h3, h4⟩ := h
 exact h2.1
theorem SIn.fr {w : World} {X room : Nat} {s : Nat → Bool} (h : SIn w X room s) (o : Nat) : w.frozen? ⟨X, o, none⟩ = false := by
 obtain ⟨W, h1, h2, h3, h4⟩ := h
 exact h2.2.2 o
theorem at_below {w w1 : World} {B k : Nat} {cs : Array Value} (h : At w k cs) (hb : Below B w w1) (hk : k < B) : At w1 k cs :=
 ⟨Nat.lt_of_lt_of_le h.1 hb.size, fun o => (hb.cell (p := ⟨k, o, none⟩) hk).trans (h.2.1 o), fun o => (hb.frozen (p := ⟨k, o, none⟩) hk).trans (h.2.2 o)⟩
theorem SIn.below {w w1 : World} {B X room : Nat} {s : Nat → Bool} (h : SIn w X room s) (hb : Below B w w1) (hk : X < B) : SIn w1 X room s := by
 obtain ⟨W, h1, h2, h3, h4⟩ := h
 exact ⟨W, h1, at_below h2 hb hk, h3, h4⟩
theorem quo64 (n : Nat) (hn : n < 2000000) : IntKind.i64.wrap ((n : Int) / 64) = ((n / 64 : Nat) : Int) := by rw [IntKind.wrap_i64]; omega
theorem has_any (X room n : Nat) (s : Nat → Bool) (w : World) (h : SIn w X room s) (hr : room < 2000000) (hn : n < room) :
   Calls Tryz.prog 92 #[sv X room, .int .i64 n] w fun e w' => e = .returned (.bool (s n)) ∧ Below w.heap.size w w' := by
 have hM := mayHave_any X room n
 have hX := h.lt
 obtain ⟨x, x1, x2, x3⟩ := h.word hn
 have hB := fun W => bitOf_any n W (by omega)
 have e1 : thB room n = true := by simp [thB]; omega
 rw [e1] at hM
 simp only [x3, test_and]
 have hb := u64_and_nat x (2 ^ (n % 64)) x1 (Nat.pow_lt_pow_right (m := n % 64) (n := 64) (by omega) (Nat.mod_lt _ (by omega)))
 have hnw : ((n / 64 : Nat) : Int) < (((room + 63) / 64 : Nat) : Int) := by omega
 have hq := quo64 n (by omega)
 unfold sv at *
 generalize (room + 63) / 64 = nw at *
 generalize 2 ^ (n % 64) = bt at *
 generalize n / 64 = q at *
 replace h := Hid.mk h
 replace hM := Hid.mk hM
 replace hB := Hid.mk hB
 replace x3 := Hid.mk x3
 go_enter Tryz.func92, Tryz.ntmps92
 go_wp2_with fail
 go_region_held3 (fun W => W.cell? ⟨w.heap.size, 0, none⟩ = some (.slice (some ⟨X, 0, none⟩) nw nw) ∧ W.cell? ⟨w.heap.size, 1, none⟩ = some (.int .i64 room) ∧ W.cell? ⟨X, q, none⟩ = some (.int .u64 x)) (simp [go_sem, *]) (first | (go_at_call 102; refine (hM.out _).mono ?_; rintro x w1 ⟨rfl, o, rfl⟩) | (go_at_call 103; refine (hB.out _).mono ?_; rintro x w1 ⟨rfl, rfl⟩))
 all_goals
   go_wp2_with fail
   go_ret
   exact ⟨rfl, by (repeat (first | assumption | with_reducible exact Below.refl _ _ | with_reducible refine Below.alloc ?_ (by simp <;> omega) _ | with_reducible refine Below.setCell ?_ (by simp <;> omega) _ | with_reducible refine Below.drew ?_))⟩
def adB (room : Nat) (s : Nat → Bool) (pc : Int) : Bool := thB room pc && !s pc.toNat
def adS (s : Nat → Bool) (pc : Int) : Nat → Bool := fun n => s n || decide ((n : Int) = pc)
theorem SIn.same {w : World} {X room : Nat} {s s' : Nat → Bool} (h : SIn w X room s) (e : ∀ n, n < room → s' n = s n) : SIn w X room s' := by
 obtain ⟨W, h1, h2, h3, h4⟩ := h
 exact ⟨W, h1, h2, h3, fun n hn => (e n hn).trans (h4 n hn)⟩
theorem SIn.put {w : World} {X room n x : Nat} {s : Nat → Bool} (h : SIn w X room s) (hn : n < room) (hx : w.cell? ⟨X, n / 64, none⟩ = some (.int .u64 x)) : SIn (w.setCell ⟨X, n / 64, none⟩ (.int .u64 ((x ||| 2 ^ (n % 64) : Nat) : Int))) X room (adS s n) := by
 obtain ⟨W, h1, h2, h3, h4⟩ := h
 have hlt : n / 64 < W.length := by rw [h1]; omega
 have e0 : x = W[n / 64] := by
   rw [h2.2.1] at hx
   simp [hlt] at hx
   omega
 have hx' : x < 18446744073709551616 := by rw [e0]; exact h3 _ (List.getElem_mem hlt)
 have hp : 2 ^ (n % 64) < 2 ^ 64 := Nat.pow_lt_pow_right (by omega) (Nat.mod_lt _ (by omega))
 have ho : x ||| 2 ^ (n % 64) < 2 ^ 64 := Nat.or_lt_two_pow hx' hp
 refine ⟨W.set (n / 64) (x ||| 2 ^ (n % 64)), by simp [h1], ?_, fun y hy => ?_, fun m hm => ?_⟩
 · have := h2.set (n / 64) (.int .u64 ((x ||| 2 ^ (n % 64) : Nat) : Int)) (by simpa using hlt)
   simpa [List.map_set] using this
 · rcases List.mem_or_eq_of_mem_set hy with r | r
   · exact h3 y r
   · rw [r]; exact ho
 · unfold adS
   rw [h4 m hm]
   by_cases hq : m / 64 = n / 64
   · rw [hq]
     simp only [List.getElem?_set_self hlt, Option.getD_some, Nat.testBit_or, Nat.testBit_two_pow, List.getElem?_eq_getElem hlt, ← e0]
     congr 1
     rw [decide_eq_decide]
     omega
   · rw [List.getElem?_set_ne (fun q => hq q.symm)]
     have : ¬ (m : Int) = n := by omega
     simp [this]
theorem add_any (X room : Nat) (s : Nat → Bool) (pc : Int) (w : World) (h : SIn w X room s) (hr : room < 2000000) :
   Calls Tryz.prog 87 #[sv X room, .int .i64 pc] w fun e w' => e = .returned (.bool (adB room s pc)) ∧ SIn w' X room (adS s pc) ∧ Kp (fun k => k = X) w w' := by
 have hM := mayHave_any X room pc
 have hX := h.lt
 cases e0 : thB room pc with
 | false =>
   rw [e0] at hM
   have e1 : adB room s pc = false := by simp [adB, e0]
   rw [e1]
   have hS : ∀ W, Below w.heap.size w W → SIn W X room (adS s pc) ∧ Kp (fun k => k = X) w W := fun W q => by
     refine ⟨(h.below q hX).same (fun n hn => ?_), Kp.of_below q⟩
     have : ¬ (n : Int) = pc := by
       intro r
       subst r
       simp [thB] at e0
       omega
     simp [adS, this]
   unfold sv at *
   generalize (room + 63) / 64 = nw at *
   replace h := Hid.mk h
   replace hM := Hid.mk hM
   replace hS := Hid.mk hS
   go_enter Tryz.func87, Tryz.ntmps87
   go_wp2_with (go_at_call 102; refine (hM.out _).mono ?_; rintro x w1 ⟨rfl, o, rfl⟩)
   go_ret
   exact ⟨rfl, hS.out _ (by (repeat (first | assumption | with_reducible exact Below.refl _ _ | with_reducible refine Below.alloc ?_ (by simp <;> omega) _ | with_reducible refine Below.setCell ?_ (by simp <;> omega) _ | with_reducible refine Below.drew ?_)))⟩
 | true =>
   simp only [thB, Bool.and_eq_true, decide_eq_true_eq] at e0
   obtain ⟨n, rfl⟩ := Int.eq_ofNat_of_zero_le e0.1
   have hn : n < room := by omega
   have e1 : thB room n = true := by simp [thB]; omega
   rw [e1] at hM
   have hH := fun W (q : Below w.heap.size w W) => has_any X room n s W (h.below q hX) hr hn
   cases e2 : s n with
   | true =>
     have e3 : adB room s n = false := by simp [adB, e2]
     rw [e3]
     rw [e2] at hH
     have hS : ∀ W, Below w.heap.size w W → SIn W X room (adS s n) ∧ Kp (fun k => k = X) w W := fun W q => by
       refine ⟨(h.below q hX).same (fun m hm => ?_), Kp.of_below q⟩
       by_cases r : m = n
       · subst r; simp [adS, e2]
       · have : ¬ (m : Int) = n := by omega
         simp [adS, this]
     unfold sv at *
     generalize (room + 63) / 64 = nw at *
     replace h := Hid.mk h
     replace hM := Hid.mk hM
     replace hH := Hid.mk hH
     replace hS := Hid.mk hS
     go_enter Tryz.func87, Tryz.ntmps87
     go_wp2_with (first | (go_at_call 102; refine (hM.out _).mono ?_; rintro x w1 ⟨rfl, o, rfl⟩) | (go_at_call 92; refine (hH.out _ (by (repeat (first | assumption | with_reducible exact Below.refl _ _ | with_reducible refine Below.alloc ?_ (by simp <;> omega) _ | with_reducible refine Below.setCell ?_ (by simp <;> omega) _ | with_reducible refine Below.drew ?_)))).mono ?_; rintro x w1 ⟨rfl, q1⟩; have Q1 : Below w.heap.size w w1 := Below.trans (by (repeat (first | assumption | with_reducible exact Below.refl _ _ | with_reducible refine Below.alloc ?_ (by simp <;> omega) _ | with_reducible refine Below.setCell ?_ (by simp <;> omega) _ | with_reducible refine Below.drew ?_))) (q1.mono (by simp <;> omega))))
     go_ret
     exact ⟨rfl, hS.out _ Q1⟩
   | false =>
     have e3 : adB room s n = true := by simp [adB, e2, e1]
     rw [e3]
     rw [e2] at hH
     obtain ⟨x, x1, x2, x3⟩ := h.word hn
     have hB := fun W => bitOf_any n W (by omega)
     have hp : 2 ^ (n % 64) < 18446744073709551616 := Nat.pow_lt_pow_right (m := n % 64) (n := 64) (by omega) (Nat.mod_lt _ (by omega))
     have hb := u64_or_nat x (2 ^ (n % 64)) x1 hp
     have hnw : ((n / 64 : Nat) : Int) < (((room + 63) / 64 : Nat) : Int) := by omega
     have hq := quo64 n (by omega)
     have hS : ∀ W, Below w.heap.size w W → SIn (W.setCell ⟨X, n / 64, none⟩ (.int .u64 ((x ||| 2 ^ (n % 64) : Nat) : Int))) X room (adS s n) ∧ Kp (fun k => k = X) w (W.setCell ⟨X, n / 64, none⟩ (.int .u64 ((x ||| 2 ^ (n % 64) : Nat) : Int))) := fun W q =>
       ⟨(h.below q hX).put hn ((q.cell (p := ⟨X, n / 64, none⟩) hX).trans x2), (Kp.of_below q).trans (Kp.set (S := fun k => k = X) W _ _ rfl) (fun k r => .inl r)⟩
     have hC : ∀ W, Below w.heap.size w W → W.cell? ⟨X, n / 64, none⟩ = some (.int .u64 x) ∧ (∀ o, W.frozen? ⟨X, o, none⟩ = false) := fun W q => ⟨(q.cell (p := ⟨X, n / 64, none⟩) hX).trans x2, fun o => (q.frozen (p := ⟨X, o, none⟩) hX).trans (h.fr o)⟩
     unfold sv at *
     generalize (room + 63) / 64 = nw at *
     generalize 2 ^ (n % 64) = bt at *
     generalize n / 64 = q at *
     replace h := Hid.mk h
     replace hM := Hid.mk hM
     replace hH := Hid.mk hH
     replace hS := Hid.mk hS
     replace hC := Hid.mk hC
     replace hB := Hid.mk hB
     clear x2 x3
     go_enter Tryz.func87, Tryz.ntmps87
     go_wp2_with (first | (go_at_call 102; refine (hM.out _).mono ?_; rintro x w1 ⟨rfl, o, rfl⟩) | (go_at_call 92; refine (hH.out _ (by (repeat (first | assumption | with_reducible exact Below.refl _ _ | with_reducible refine Below.alloc ?_ (by simp <;> omega) _ | with_reducible refine Below.setCell ?_ (by simp <;> omega) _ | with_reducible refine Below.drew ?_)))).mono ?_; rintro x w1 ⟨rfl, q1⟩; have Q1 : Below (w.heap.size + 1) (w.alloc (.cells #[.slice (some ⟨X, 0, none⟩) nw nw, .int .i64 room] 136)) w1 := Below.trans (by (repeat (first | assumption | with_reducible exact Below.refl _ _ | with_reducible refine Below.alloc ?_ (by simp <;> omega) _ | with_reducible refine Below.setCell ?_ (by simp <;> omega) _ | with_reducible refine Below.drew ?_))) (q1.mono (by simp <;> omega))))
     have A1 := at_below (At.new w #[.slice (some ⟨X, 0, none⟩) nw nw, .int .i64 room] 136) Q1 (Nat.lt_succ_self _)
     have Q2 : Below w.heap.size w w1 := ((Below.refl _ w).alloc (Nat.le_refl _) _).trans (Q1.mono (by omega))
     have z0 : w1.cell? ⟨w.heap.size, 0, none⟩ = some (.slice (some ⟨X, 0, none⟩) nw nw) := A1.2.1 0
     have zl := A1.1
     obtain ⟨c1, c2⟩ := hC.out w1 Q2
     have hX' : X < w1.heap.size := Nat.lt_of_lt_of_le hX Q2.size
     replace Q1 := Hid.mk Q1
     replace Q2 := Hid.mk Q2
     replace A1 := Hid.mk A1
     go_region_with (go_at_call 103; refine (hB.out _).mono ?_; rintro x w2 ⟨rfl, rfl⟩)
     all_goals
       go_wp2_with fail
       go_ret
       exact ⟨rfl, hS.out w1.drew Q2.out.drew⟩
end F
end Go.Proofs.YtdlcphinjnnhcaaGreatDoor


namespace Go.Proofs.YtdlcphinjnnhcaaGreatDoor
set_option maxRecDepth 100000
set_option maxHeartbeats 40000000
namespace F
open Go.RowKit
open T

theorem SIn.new (w : World) (room : Nat) : SIn (w.alloc (.cells (Array.replicate ((room + 63) / 64) (.int .u64 0)) 34)) w.heap.size room (fun _ => false) := by
 refine ⟨List.replicate ((room + 63) / 64) 0, by simp, ?_, fun x hx => ?_, fun n hn => ?_⟩
 · have := At.new w (Array.replicate ((room + 63) / 64) (.int .u64 0)) 34
   simpa using this
 · rw [List.eq_of_mem_replicate hx]; omega
 · rw [List.getElem?_replicate]
   split <;> simp
theorem info_parts' {t : TypeId} {z : Value} {s b : Nat} (h : (Tryz.prog.info? t).map (fun i => (i.zero, i.size, i.bytes)) = some (some z, s, b)) :
   ∃ i, Tryz.prog.info? t = some i ∧ i.zero = some z ∧ i.size = s ∧ i.bytes = b := by
 obtain ⟨i, hi, he⟩ := Option.map_eq_some_iff.1 h
 simp only [Prod.mk.injEq] at he
 exact ⟨i, hi, he.1, he.2.1, he.2.2⟩
theorem made_one (z : Value) (n : Nat) : madeCells #[z] n = Array.replicate n z := by
 apply Array.ext_getElem?
 intro i
 simp only [madeCells, Array.getElem?_map, Array.getElem?_range, Array.getElem?_replicate]
 by_cases h : i < n
 · simp [h, Nat.mod_one]
 · simp [h]
theorem make_row {t e : TypeId} {z : Value} {b : Nat} (ht : Tryz.prog.underlying t = some (.slice e)) (hi : (Tryz.prog.info? e).map (fun i => (i.zero, i.size, i.bytes)) = some (some z, 1, b)) (hz : z.cells = #[z]) (hb : b ≤ 64) (n : Nat) (hn : n ≤ 2000000) (w : World) :
   (Instr.makeSlice t (.int .i64 n) (.int .i64 n)).run Tryz.prog w = .ok (.slice (some ⟨w.heap.size, 0, none⟩) n n) (w.alloc (.cells (Array.replicate n z) e)) := by
 obtain ⟨i0, hi0, hz0, hz1, hz2⟩ := info_parts' hi
 have hbb : (i0.bytes : Int) * (n : Int) ≤ 281474976710656 := by
   rw [hz2]
   have : b * n ≤ 64 * 2000000 := Nat.mul_le_mul hb hn
   have h : ((b * n : Nat) : Int) ≤ 281474976710656 := by omega
   rwa [Int.natCast_mul] at h
 have h := run_make (P := Tryz.prog) w t e i0 z ht hi0 hz0 .i64 .i64 n n (by omega) (by omega) hbb (by omega)
 rw [hz1, hz, Nat.mul_one, Int.toNat_natCast, made_one] at h
 exact h
theorem make_u64 (n : Nat) (hn : n ≤ 2000000) (w : World) : (Instr.makeSlice 111 (.int .i64 n) (.int .i64 n)).run Tryz.prog w = .ok (.slice (some ⟨w.heap.size, 0, none⟩) n n) (w.alloc (.cells (Array.replicate n (.int .u64 0)) 34)) :=
 make_row (b := 8) Tryz.underlying111 (by kernel_rfl) rfl (by decide) n hn w
theorem make_bools (n : Nat) (hn : n ≤ 2000000) (w : World) : (Instr.makeSlice 79 (.int .i64 n) (.int .i64 n)).run Tryz.prog w = .ok (.slice (some ⟨w.heap.size, 0, none⟩) n n) (w.alloc (.cells (Array.replicate n (.bool false)) 4)) :=
 make_row (b := 1) Tryz.underlying79 (by kernel_rfl) rfl (by decide) n hn w
theorem make_ints (n : Nat) (hn : n ≤ 2000000) (w : World) : (Instr.makeSlice 67 (.int .i64 n) (.int .i64 n)).run Tryz.prog w = .ok (.slice (some ⟨w.heap.size, 0, none⟩) n n) (w.alloc (.cells (Array.replicate n (.int .i64 0)) 3)) :=
 make_row (b := 8) Tryz.underlying67 (by kernel_rfl) rfl (by decide) n hn w
theorem newSet_any (room : Nat) (w : World) (hr : room < 2000000) :
   Calls Tryz.prog 86 #[.int .i64 room] w fun e w' => e = .returned (sv (w.heap.size + 1) room) ∧ SIn w' (w.heap.size + 1) room (fun _ => false) ∧ Below w.heap.size w w' ∧ w'.heap.size = w.heap.size + 2 := by
 have h3 : ((room : Int) + 64 - 1) / 64 = (((room + 63) / 64 : Nat) : Int) := by omega
 have h4 : (0 : Int) ≤ (((room + 63) / 64 : Nat) : Int) := by omega
 have hN := fun W => SIn.new W room
 have hm := make_u64 ((room + 63) / 64) (by omega)
 unfold sv
 generalize (room + 63) / 64 = nw at *
 replace hN := Hid.mk hN
 go_enter Tryz.func86, Tryz.ntmps86
 go_wp2_with fail
 have hN1 := hN.out (w.alloc (.cells #[.slice (some ⟨w.heap.size + 1, 0, none⟩) nw nw, .int .i64 room] 136))
 rw [World.size_alloc] at hN1
 simp [bodyPost, results, Tryz.results86, go_sem]
 exact ⟨hN1, by (repeat (first | assumption | with_reducible exact Below.refl _ _ | with_reducible refine Below.alloc ?_ (by simp <;> omega) _ | with_reducible refine Below.setCell ?_ (by simp <;> omega) _ | with_reducible refine Below.drew ?_))⟩
def FillAt (w0 : World) (X nw room : Nat) (w : World) (j : Nat) (wr : World) : Prop :=
 Hid (∃ W : List Nat, W.length = nw ∧ At wr X (W.map fun n : Nat => Value.int .u64 n).toArray ∧ (∀ x ∈ W, x < 18446744073709551616) ∧ (∀ k, k < j → W[k]? = some 18446744073709551615) ∧ Kp (fun k => k = X) w0 wr ∧ At wr w.heap.size #[.slice (some ⟨X, 0, none⟩) nw nw, .int .i64 room] ∧ w0.heap.size = w.heap.size)
theorem fill_any (X room : Nat) (s : Nat → Bool) (w : World) (h : SIn w X room s) (hr : room < 2000000) :
   Calls Tryz.prog 91 #[sv X room] w fun e w' => e = .returned (.tuple #[]) ∧ SIn w' X room (fun _ => true) ∧ Kp (fun k => k = X) w w' := by
 have hX := h.lt
 obtain ⟨W0, h1, h2, h3, h4⟩ := h
 unfold sv
 have hnw : (room + 63) / 64 ≤ 2000000 := by omega
 have hF : FillAt w X ((room + 63) / 64) room w 0 (w.alloc (.cells #[.slice (some ⟨X, 0, none⟩) ((room + 63) / 64) ((room + 63) / 64), .int .i64 room] 136)) :=
   Hid.mk ⟨W0, h1, h2.alloc _, h3, fun k hk => by omega, Kp.alloc _ _ _, At.new w _ _, rfl⟩
 have hE : ∀ wr, FillAt w X ((room + 63) / 64) room w ((room + 63) / 64) wr → SIn wr X room (fun _ => true) ∧ Kp (fun k => k = X) w wr := fun wr q => by
   obtain ⟨W, q1, q2, q3, q4, q5, q6, q7⟩ := q.out
   refine ⟨⟨W, q1, q2, q3, fun n hn => ?_⟩, q5⟩
   rw [q4 (n / 64) (by omega)]
   show true = Nat.testBit (2 ^ 64 - 1) (n % 64)
   rw [Nat.testBit_two_pow_sub_one]
   have := Nat.mod_lt n (show 0 < 64 by omega)
   simp [this]
 have hStep : ∀ j wr, FillAt w X ((room + 63) / 64) room w j wr → j < (room + 63) / 64 → (∃ y, wr.cell? ⟨X, j, none⟩ = some y) ∧ wr.frozen? ⟨X, j, none⟩ = false ∧ wr.cell? ⟨w.heap.size, 0, none⟩ = some (.slice (some ⟨X, 0, none⟩) ((room + 63) / 64) ((room + 63) / 64)) ∧ FillAt w X ((room + 63) / 64) room w (j + 1) (wr.setCell ⟨X, j, none⟩ (.int .u64 18446744073709551615)) := fun j wr q hj => by
   obtain ⟨W, q1, q2, q3, q4, q5, q6, q7⟩ := q.out
   have hjl : j < W.length := by omega
   refine ⟨⟨.int .u64 (W[j] : Nat), by rw [q2.2.1]; simp [hjl]⟩, q2.2.2 j, q6.2.1 0, Hid.mk ⟨W.set j 18446744073709551615, by simp [q1], ?_, fun x hx => ?_, fun k hk => ?_, q5.trans (Kp.set (S := fun k => k = X) wr _ _ rfl) (fun k r => .inl r), q6.set_other _ (by omega), q7⟩⟩
   · have := q2.set j (.int .u64 18446744073709551615) (by simpa using hjl)
     simpa [List.map_set] using this
   · rcases List.mem_or_eq_of_mem_set hx with r | r
     · exact q3 x r
     · rw [r]; omega
   · by_cases e : k = j
     · subst e; simp [hjl]
     · rw [List.getElem?_set_ne (fun r => e r.symm)]
       exact q4 k (by omega)
 clear h1 h2 h3 h4
 generalize (room + 63) / 64 = nw at *
 replace hE := Hid.mk hE
 replace hStep := Hid.mk hStep
 go_enter Tryz.func91, Tryz.ntmps91
 go_wp2_with fail
 go_loopw [6] (fun i wr => ∃ j : Nat, i = .int .i64 j ∧ j ≤ nw ∧ FillAt w X nw room w j wr) (fun i _ => nw - (intOf i).toNat)
 case atStart => exact ⟨0, rfl, by omega, hF⟩
 case round =>
   obtain ⟨j, rfl, hj, hI⟩ := hrel
   by_cases hlt : j < nw
   · obtain ⟨⟨y, s1⟩, s2, s3, s4⟩ := hStep.out j wr hI hlt
     have hi1 : (j : Int) < nw := by omega
     have hw1 : IntKind.i64.wrap ((j : Int) + 1) = ((j + 1 : Nat) : Int) := by rw [IntKind.wrap_i64]; omega
     go_wp2_with fail
     go_roundw
     all_goals first | exact ⟨j + 1, by simp, by omega, s4⟩ | (simp only [intOf]; omega)
   · have hi1 : ¬ (j : Int) < nw := by omega
     have ej : j = nw := by omega
     subst ej
     go_wp2_with fail
     go_end0
     exact ⟨rfl, hE.out _ hI⟩
def TruAt (w : World) (X nw room : Nat) (s : Nat → Bool) (j : Nat) (wr : World) : Prop :=
 Hid (Below w.heap.size w wr ∧ At wr w.heap.size #[.slice (some ⟨X, 0, none⟩) nw nw, .int .i64 room] ∧ w.heap.size + 1 < wr.heap.size ∧
   (∀ k, k < room → wr.cell? ⟨w.heap.size + 1, k, none⟩ = some (.bool (if k < j then s k else false))) ∧ (∀ k, room ≤ k → wr.cell? ⟨w.heap.size + 1, k, none⟩ = none) ∧ ∀ o, wr.frozen? ⟨w.heap.size + 1, o, none⟩ = false)
theorem truths_any (X room : Nat) (s : Nat → Bool) (w : World) (h : SIn w X room s) (hr : room < 2000000) :
   Calls Tryz.prog 71 #[sv X room] w fun e w' => ∃ g, e = .returned (.slice (some ⟨g, 0, none⟩) room room) ∧ w.heap.size ≤ g ∧ At w' g ((List.range room).map fun k => Value.bool (s k)).toArray ∧ Below w.heap.size w w' := by
 have hX := h.lt
 have hm := make_bools room (by omega)
 have hH := fun (k : Nat) (hk : k < room) W (q : Below w.heap.size w W) => has_any X room k s W (h.below q hX) hr hk
 unfold sv at *
 generalize (room + 63) / 64 = nw at *
 have h0 : TruAt w X nw room s 0 ((w.alloc (.cells #[.slice (some ⟨X, 0, none⟩) nw nw, .int .i64 room] 136)).alloc (.cells (Array.replicate room (.bool false)) 4)) := by
   have a2 := At.next w (.cells #[.slice (some ⟨X, 0, none⟩) nw nw, .int .i64 room] 136) (Array.replicate room (.bool false)) 4
   refine Hid.mk ⟨by (repeat (first | assumption | with_reducible exact Below.refl _ _ | with_reducible refine Below.alloc ?_ (by simp <;> omega) _ | with_reducible refine Below.setCell ?_ (by simp <;> omega) _ | with_reducible refine Below.drew ?_)), (At.new w _ _).alloc _, a2.1, fun k hk => ?_, fun k hk => ?_, a2.2.2⟩
   · rw [a2.2.1]; simp [hk]
   · rw [a2.2.1]; simp; omega
 have hE : ∀ wr, TruAt w X nw room s room wr → At wr (w.heap.size + 1) ((List.range room).map fun k => Value.bool (s k)).toArray ∧ Below w.heap.size w wr := fun wr q => by
   obtain ⟨q1, q2, q3, q4, q5, q6⟩ := q.out
   refine ⟨⟨q3, fun o => ?_, q6⟩, q1⟩
   by_cases ho : o < room
   · rw [q4 o ho]; simp [ho]
   · rw [q5 o (by omega), eq_comm, List.getElem?_toArray, List.getElem?_eq_none (by simp; omega)]
 have hS : ∀ j wr w1, TruAt w X nw room s j wr → j < room → Below wr.heap.size wr w1 → TruAt w X nw room s (j + 1) (w1.setCell ⟨w.heap.size + 1, j, none⟩ (.bool (s j))) := fun j wr w1 q hj hb => by
   obtain ⟨q1, q2, q3, q4, q5, q6⟩ := q.out
   have hsz := q1.size
   have hsb := hb.size
   refine Hid.mk ⟨(q1.trans (hb.mono hsz)).setCell (by simp) _, (at_below q2 hb q2.1).set_other _ (by omega), by simpa using Nat.lt_of_lt_of_le q3 hsb, fun k hk => ?_, fun k hk => ?_, fun o => by simpa using (hb.frozen (p := ⟨w.heap.size + 1, o, none⟩) q3).trans (q6 o)⟩
   · by_cases e : k = j
     · subst e
       rw [World.cell?_setCell_same _ _ _ ((hb.cell (p := ⟨w.heap.size + 1, k, none⟩) q3).trans (q4 k hk)), if_pos (by omega)]
     · rw [cso (fun _ r => e r.symm), hb.cell (p := ⟨w.heap.size + 1, k, none⟩) q3, q4 k hk]
       by_cases e2 : k < j
       · rw [if_pos e2, if_pos (by omega)]
       · rw [if_neg e2, if_neg (by omega)]
   · rw [cso (fun _ r => by omega), hb.cell (p := ⟨w.heap.size + 1, k, none⟩) q3, q5 k hk]
 have hC : ∀ j wr, TruAt w X nw room s j wr → j < room → (∃ y, wr.cell? ⟨w.heap.size + 1, j, none⟩ = some y) ∧ wr.frozen? ⟨w.heap.size + 1, j, none⟩ = false ∧ wr.cell? ⟨w.heap.size, 0, none⟩ = some (.slice (some ⟨X, 0, none⟩) nw nw) ∧ wr.cell? ⟨w.heap.size, 1, none⟩ = some (.int .i64 room) ∧ Below w.heap.size w wr ∧ w.heap.size + 1 < wr.heap.size := fun j wr q hj => by
   obtain ⟨q1, q2, q3, q4, q5, q6⟩ := q.out
   exact ⟨⟨_, q4 j hj⟩, q6 j, q2.2.1 0, q2.2.1 1, q1, q3⟩
 replace h := Hid.mk h
 replace hH := Hid.mk hH
 replace hE := Hid.mk hE
 replace hS := Hid.mk hS
 replace hC := Hid.mk hC
 go_enter Tryz.func71, Tryz.ntmps71
 go_wp2_with fail
 go_loopw [10] (fun i wr => ∃ j : Nat, i = .int .i64 j ∧ j ≤ room ∧ TruAt w X nw room s j wr) (fun i _ => room - (intOf i).toNat)
 case atStart => exact ⟨0, rfl, by omega, h0⟩
 case round =>
   obtain ⟨j, rfl, hj, hI⟩ := hrel
   by_cases hlt : j < room
   · obtain ⟨⟨y, s1⟩, s2, s3, s4, s5, s6⟩ := hC.out j wr hI hlt
     have hi1 : (j : Int) < room := by omega
     replace s5 := Hid.mk s5
     go_wp2_with (go_at_call 92; refine (hH.out j hlt _ s5.out).mono ?_; rintro x w1 ⟨rfl, q1⟩; have c1 := (q1.cell (p := ⟨w.heap.size + 1, j, none⟩) s6).trans s1; have c2 := (q1.frozen (p := ⟨w.heap.size + 1, j, none⟩) s6).trans s2; have c3 := Hid.mk (hS.out j wr w1 hI hlt q1); replace q1 := Hid.mk q1)
     go_roundw
     all_goals first | exact ⟨j + 1, by simp, by omega, c3.out⟩ | (simp only [intOf]; omega)
   · have hi1 : ¬ (j : Int) < room := by omega
     have ej : j = room := by omega
     subst ej
     go_wp2_with fail
     go_ret
     exact ⟨_, rfl, by simp, (hE.out _ hI).1, (hE.out _ hI).2⟩
end F
end Go.Proofs.YtdlcphinjnnhcaaGreatDoor
