import Derived.Test.YthmlkcglglcljaaGreatDoorJ40
import Derived.Test.YthmlkcglglcljaaGreatDoorJ35
import Derived.BigFrame
namespace Go.Proofs.YthmlkcglglcljaaGreatDoor
namespace C
open Go.RowKit
open T (Sep Ob Kp Mf TgIn boxOb Fm Tc Ed Vl Cp Bx tgOb mRow updV flt ofI Sl Rg rgB rgT slB dataB inMem layB upd ldV ldE leB wordB hasB holdsB accessF twoI)

def smCode (n : Nat) : List Ins := [⟨1, 1, 0, 0, 0⟩, ⟨1, 2, 0, 0, 0⟩, ⟨1, 3, 0, 0, n⟩, ⟨24, 2, 3, 0, 10⟩, ⟨70, 2, 0, 9, 32⟩, ⟨40, 4, 8, 2, 0⟩, ⟨60, 5, 4, 0, 0⟩, ⟨3, 1, 1, 5, 0⟩, ⟨11, 2, 2, 0, 1⟩, ⟨20, 0, 0, 0, 3⟩, ⟨27, 1, 0, 0, 0⟩]
def smP (X : List UInt8) : PImg := ⟨[⟨0, 32, X, []⟩], [⟨[⟨8, 0, 32, 0, 3, 0⟩], smCode X.length⟩], [⟨0, 0, [], []⟩], 1⟩
def smQ (n : Nat) : PImg := ⟨[], [⟨[⟨8, 0, 32, 0, 3, 0⟩], smCode n⟩], [⟨0, 0, [], []⟩], 1⟩
def sumT (X : List UInt8) : Nat → Nat
 | 0 => 0
 | k + 1 => sumT X k + (X.getD k 0).toNat
theorem sumT_le (X : List UInt8) : ∀ k, sumT X k ≤ 255 * k
 | 0 => Nat.le_refl _
 | k + 1 => by have := sumT_le X k; have h := (X.getD k 0).toNat_lt; unfold sumT; omega
def Gt (P : PImg) (k : Nat) (s s' : Ms) : Prop := ∀ f, stepsM P (k + f) s = stepsM P f s'
theorem Gt.one {P : PImg} {s s' : Ms} (h0 : s.over.e = 0) (h : stepM P s = .ok s') : Gt P 1 s s' := fun f => by rw [Nat.add_comm]; exact stepsM_ok h0 h
theorem Gt.trans {P : PImg} {s t u : Ms} {j k : Nat} (h : Gt P j s t) (g : Gt P k t u) : Gt P (j + k) s u := fun f => by rw [Nat.add_assoc, h, g]
structure Sm (X : List UInt8) (k pc : Nat) (s : Ms) : Prop where
 g : s.at_.gate = 0
 pc : s.at_.pc = pc
 r1 : s.at_.regs 1 = intV (sumT X k)
 r2 : s.at_.regs 2 = intV k
 r3 : s.at_.regs 3 = intV X.length
 r8 : s.at_.regs 8 = ⟨true, 0, ⟨0, 32, 0, 3, 0⟩⟩
 b : ∀ a, a < X.length → s.b a = X.getD a 0
 tou : s.tou.length = k
 e : s.over = ⟨0, 0, 0⟩
theorem Sm.run {X : List UInt8} {k pc : Nat} {s : Ms} (h : Sm X k pc s) : s.over.e = 0 := by rw [h.e]
theorem sm_step {n pc : Nat} {s : Ms} (hg : s.at_.gate = 0) (hp : s.at_.pc = pc) (i : Ins) (hi : (smCode n)[pc]? = some i) : stepM (smQ n) s = insM (smQ n) s i.op i.a.toNat i.b.toNat i.c.toNat i.m := by
 unfold stepM
 rw [hg, hp, show codeOf (smQ n) (kOf (smQ n) 0) = smCode n from rfl, hi]
theorem in_rec {P : PImg} {s : Ms} {op m : Int} {A B C : Nat} {v : Vl} (h : op ≤ 13) (hv : recM s op B C m = .ok v) : insM P s op A B C m = .ok (s.put A v).next := by
 unfold insM; rw [if_pos h, hv]; rfl
theorem ofI_nat (n : Nat) : ofI (n : Int) = intV n := by simp [ofI, intV]
theorem wr_id {x : Int} (h0 : 0 ≤ x) (h1 : x < 18446744073709551616) : IntKind.u64.wrap x = x := by rw [IntKind.wrap_u64]; omega
theorem sm_li {n pc : Nat} {s : Ms} (hg : s.at_.gate = 0) (hp : s.at_.pc = pc) (A : Int) (m : Nat) (hm : m < 1000) (hi : (smCode n)[pc]? = some ⟨1, A, 0, 0, m⟩) : stepM (smQ n) s = .ok (s.put A.toNat (intV m)).next := by
 rw [sm_step hg hp _ hi]
 refine in_rec (by show (1 : Int) ≤ 13; decide) ?_
 unfold recM
 rw [if_pos rfl, wr_id (by show (0 : Int) ≤ (m : Int); omega) (by show (m : Int) < _; omega), ofI_nat]
theorem sm_begin (X : List UInt8) (hX : X.length ≤ 32) (s : Ms) (hg : s.at_.gate = 0) (hp : s.at_.pc = 0) (h8 : s.at_.regs 8 = ⟨true, 0, ⟨0, 32, 0, 3, 0⟩⟩) (hb : ∀ a, a < X.length → s.b a = X.getD a 0) (ht : s.tou = []) (he : s.over = ⟨0, 0, 0⟩) : ∃ t, Sm X 0 3 t ∧ Gt (smQ X.length) 3 s t := by
 have e1 := sm_li (n := X.length) hg hp 1 0 (by omega) rfl
 have e2 := sm_li (n := X.length) (s := (s.put 1 (intV 0)).next) hg (pc := 1) (by show s.at_.pc + 1 = 1; omega) 2 0 (by omega) rfl
 have e3 := sm_li (n := X.length) (s := ((s.put 1 (intV 0)).next.put 2 (intV 0)).next) hg (pc := 2) (by show s.at_.pc + 1 + 1 = 2; omega) 3 X.length (by omega) rfl
 have h0 : s.over.e = 0 := by rw [he]
 refine ⟨(((s.put 1 (intV 0)).next.put 2 (intV 0)).next.put 3 (intV X.length)).next, ⟨hg, by show s.at_.pc + 1 + 1 + 1 = 3; omega, rfl, rfl, rfl, ?_, hb, by show s.tou.length = 0; rw [ht]; rfl, he⟩, ?_⟩
 · show updV (updV (updV s.at_.regs 1 (intV 0)) 2 (intV 0)) 3 (intV X.length) 8 = _
   rw [← h8]; rfl
 · exact ((Gt.one h0 e1).trans (Gt.one h0 e2)).trans (Gt.one h0 e3)
theorem sm_bge {X : List UInt8} {k : Nat} {s : Ms} (h : Sm X k 3 s) : stepM (smQ X.length) s = .ok (if (X.length : Int) ≤ (k : Int) then s.goTo 10 else s.next) := by
 rw [sm_step (n := X.length) h.g h.pc ⟨24, 2, 3, 0, 10⟩ rfl]
 show braM s 24 2 3 10 = _
 unfold braM
 rw [h.r2, h.r3]
 show Except.ok (if decide ((X.length : Int) ≤ (k : Int)) = true then s.goTo 10 else s.next) = _
 simp only [decide_eq_true_eq]
theorem sm_glt {X : List UInt8} {k : Nat} {s : Ms} (h : Sm X k 4 s) (hk : k < 32) : stepM (smQ X.length) s = .ok s.next := by
 rw [sm_step (n := X.length) h.g h.pc ⟨70, 2, 0, 9, 32⟩ rfl]
 show grdR 70 2 9 32 s = _
 unfold grdR
 rw [h.r2]
 have : holR 70 32 (intV k) = .ok true := by
   unfold holR
   rw [if_pos rfl]
   show (Except.ok (decide ((k : Int) < IntKind.u64.wrap 32)) : Except Ed Bool) = .ok true
   rw [wr_id (by decide) (by decide), decide_eq_true (by omega)]
 rw [this]
theorem sm_cinc {X : List UInt8} {k : Nat} {s : Ms} (h : Sm X k 5 s) (hk : k < 32) : stepM (smQ X.length) s = .ok (s.put 4 (ofC ⟨0, 32, k, 3, 0⟩)).next := by
 rw [sm_step (n := X.length) h.g h.pc ⟨40, 4, 8, 2, 0⟩ rfl]
 show layM s 4 (capV (derR 40 0 (s.at_.regs 8) (s.at_.regs 2))) = _
 rw [h.r8, h.r2]
 have : derR 40 0 ⟨true, 0, ⟨0, 32, 0, 3, 0⟩⟩ (intV k) = .ok ⟨0, 32, k, 3, 0⟩ := by
   unfold derR madeR
   rw [if_pos rfl, if_pos rfl]
   show (match (Except.ok (incF ⟨0, 32, 0, 3, 0⟩ k) : Except Ed (Cp × Int)) with | Except.error e => (Except.error e : Except Ed Cp) | Except.ok r => if r.2 = 0 then Except.ok r.1 else Except.error (flt r.2)) = _
   unfold incF
   rw [if_pos rfl]
   show (Except.ok (⟨0, 32, IntKind.u64.wrap (0 + (k : Int)), 3, 0⟩ : Cp) : Except Ed Cp) = _
   rw [Int.zero_add, wr_id (by omega) (by omega)]
 rw [this]
 rfl
theorem sm_lb {X : List UInt8} {k : Nat} {s : Ms} (h : Sm X k 6 s) (h4 : s.at_.regs 4 = ofC ⟨0, 32, k, 3, 0⟩) (hk : k < X.length) (hX : X.length ≤ 32) : stepM (smQ X.length) s = .ok ((Ms.put { s with tou := s.tou ++ [⟨false, k, 1⟩] } 5 (intV (X.getD k 0).toNat)).next) := by
 rw [sm_step (n := X.length) h.g h.pc ⟨60, 5, 4, 0, 0⟩ rfl]
 show loadM s 5 4 0 1 = _
 unfold loadM
 rw [h4]
 have hp : plcR 0 1 1 (ofC ⟨0, 32, k, 3, 0⟩) = .ok (k : Int) := by
   unfold plcR
   have ea : IntKind.u64.wrap ((k : Int) + IntKind.u64.wrap 0) = k := by rw [wr_id (x := 0) (by decide) (by decide), Int.add_zero, wr_id (by omega) (by omega)]
   have hh : accessF 0 32 k 3 0 (IntKind.u64.wrap 0) 1 1 = 0 := by
     unfold accessF
     rw [if_pos rfl, if_pos (by kernel_rfl), ea, if_pos]
     unfold holdsB
     rw [wr_id (x := 32 - (k : Int)) (by omega) (by omega)]
     simp only [Bool.and_eq_true, decide_eq_true_eq]
     omega
   show (if accessF 0 32 k 3 0 (IntKind.u64.wrap 0) 1 1 = 0 then Except.ok (IntKind.u64.wrap ((k : Int) + IntKind.u64.wrap 0)) else .error (flt (accessF 0 32 k 3 0 (IntKind.u64.wrap 0) 1 1))) = _
   rw [if_pos hh, ea]
 have hp' : plcR 0 ((1 : Nat) : Int) 1 (ofC ⟨0, 32, k, 3, 0⟩) = .ok (k : Int) := hp
 rw [hp']
 have hw : wordB k 1 = true := by unfold wordB; simp; omega
 have hl : ldV s.b k 1 = (X.getD k 0).toNat := by
   unfold ldV
   rw [if_pos hw]
   show 0 + (s.b (k + 0)).toNat * 2 ^ (8 * 0) = _
   rw [Nat.add_zero, h.b k hk]; simp
 have hle : ldE k 1 = 0 := by unfold ldE; rw [if_pos hw]
 show (if ldE k 1 = 0 then Except.ok ((Ms.put { s with tou := s.tou ++ [⟨false, k, 1⟩] } 5 (intV (ldV s.b k 1))).next) else .error (flt 5)) = _
 rw [if_pos hle, hl]
theorem sm_add {X : List UInt8} {k j : Nat} {s : Ms} (hg : s.at_.gate = 0) (hp : s.at_.pc = 7) (h1 : s.at_.regs 1 = intV (sumT X k)) (h5 : s.at_.regs 5 = intV j) (hj : j < 256) (hk : k < 32) : stepM (smQ X.length) s = .ok (s.put 1 (intV (sumT X k + j))).next := by
 rw [sm_step (n := X.length) hg hp ⟨3, 1, 1, 5, 0⟩ rfl]
 refine in_rec (by decide) ?_
 have := sumT_le X k
 show recM s 3 1 5 0 = _
 unfold recM
 rw [if_neg (by decide), if_neg (by decide), if_neg (by decide), h1, h5]
 show (Except.ok (ofI (twoI 3 (sumT X k) j)) : Except Ed Vl) = _
 unfold twoI
 rw [if_pos rfl, ← Int.natCast_add, wr_id (by omega) (by omega), ofI_nat]
theorem sm_addi {X : List UInt8} {k : Nat} {s : Ms} (hg : s.at_.gate = 0) (hp : s.at_.pc = 8) (h2 : s.at_.regs 2 = intV k) (hk : k < 32) : stepM (smQ X.length) s = .ok (s.put 2 (intV (k + 1))).next := by
 rw [sm_step (n := X.length) hg hp ⟨11, 2, 2, 0, 1⟩ rfl]
 refine in_rec (by decide) ?_
 show recM s 11 2 0 1 = _
 unfold recM
 rw [if_neg (by decide), if_neg (by decide), if_pos rfl, h2]
 show (Except.ok (ofI (IntKind.u64.wrap ((k : Int) + IntKind.u64.wrap 1))) : Except Ed Vl) = _
 rw [wr_id (x := 1) (by decide) (by decide), wr_id (by omega) (by omega), show (k : Int) + 1 = ((k + 1 : Nat) : Int) from rfl, ofI_nat]
theorem sm_round {X : List UInt8} (hX : X.length ≤ 32) {k : Nat} {s : Ms} (h : Sm X k 3 s) (hk : k < X.length) : ∃ t, Sm X (k + 1) 3 t ∧ Gt (smQ X.length) 7 s t := by
 have e1 := sm_bge h
 rw [if_neg (by omega)] at e1
 have h1 : Sm X k 4 s.next := ⟨h.g, by show s.at_.pc + 1 = 4; rw [h.pc], h.r1, h.r2, h.r3, h.r8, h.b, h.tou, h.e⟩
 have e2 := sm_glt h1 (by omega)
 have h2 : Sm X k 5 s.next.next := ⟨h.g, by show s.at_.pc + 1 + 1 = 5; rw [h.pc], h.r1, h.r2, h.r3, h.r8, h.b, h.tou, h.e⟩
 have e3 := sm_cinc h2 (by omega)
 generalize s.next.next = s2 at *
 have h3 : Sm X k 6 (s2.put 4 (ofC ⟨0, 32, k, 3, 0⟩)).next := ⟨h2.g, by show s2.at_.pc + 1 = 6; rw [h2.pc], h2.r1, h2.r2, h2.r3, h2.r8, h2.b, h2.tou, h2.e⟩
 have e4 := sm_lb h3 rfl hk hX
 generalize (s2.put 4 (ofC ⟨0, 32, k, 3, 0⟩)).next = s3 at *
 have e5 := sm_add (X := X) (k := k) (j := (X.getD k 0).toNat) (s := (Ms.put { s3 with tou := s3.tou ++ [⟨false, k, 1⟩] } 5 (intV (X.getD k 0).toNat)).next) h3.g (by show s3.at_.pc + 1 = 7; rw [h3.pc]) h3.r1 rfl (X.getD k 0).toNat_lt (by omega)
 have g4 : (Ms.put { s3 with tou := s3.tou ++ [⟨false, k, 1⟩] } 5 (intV (X.getD k 0).toNat)).next.at_.regs 2 = intV k := h3.r2
 have g5 : (Ms.put { s3 with tou := s3.tou ++ [⟨false, k, 1⟩] } 5 (intV (X.getD k 0).toNat)).next.at_.regs 3 = intV X.length := h3.r3
 have g6 : (Ms.put { s3 with tou := s3.tou ++ [⟨false, k, 1⟩] } 5 (intV (X.getD k 0).toNat)).next.at_.regs 8 = ⟨true, 0, ⟨0, 32, 0, 3, 0⟩⟩ := h3.r8
 have g7 : (Ms.put { s3 with tou := s3.tou ++ [⟨false, k, 1⟩] } 5 (intV (X.getD k 0).toNat)).next.tou.length = k + 1 := by show (s3.tou ++ [_]).length = k + 1; rw [List.length_append, h3.tou]; rfl
 have g8 : (Ms.put { s3 with tou := s3.tou ++ [⟨false, k, 1⟩] } 5 (intV (X.getD k 0).toNat)).next.over = ⟨0, 0, 0⟩ := h3.e
 have g9 : (Ms.put { s3 with tou := s3.tou ++ [⟨false, k, 1⟩] } 5 (intV (X.getD k 0).toNat)).next.at_.gate = 0 := h3.g
 have g10 : (Ms.put { s3 with tou := s3.tou ++ [⟨false, k, 1⟩] } 5 (intV (X.getD k 0).toNat)).next.at_.pc = 7 := by show s3.at_.pc + 1 = 7; rw [h3.pc]
 have g11 : ∀ a, a < X.length → (Ms.put { s3 with tou := s3.tou ++ [⟨false, k, 1⟩] } 5 (intV (X.getD k 0).toNat)).next.b a = X.getD a 0 := h3.b
 generalize (Ms.put { s3 with tou := s3.tou ++ [⟨false, k, 1⟩] } 5 (intV (X.getD k 0).toNat)).next = s4 at *
 have e6 := sm_addi (X := X) (k := k) (s := (s4.put 1 (intV (sumT X k + (X.getD k 0).toNat))).next) g9 (by show s4.at_.pc + 1 = 8; rw [g10]) g4 (by omega)
 have e7 := sm_step (n := X.length) (s := ((s4.put 1 (intV (sumT X k + (X.getD k 0).toNat))).next.put 2 (intV (k + 1))).next) g9 (pc := 9) (by show s4.at_.pc + 1 + 1 = 9; rw [g10]) ⟨20, 0, 0, 0, 3⟩ rfl
 have e7' : stepM (smQ X.length) ((s4.put 1 (intV (sumT X k + (X.getD k 0).toNat))).next.put 2 (intV (k + 1))).next = .ok ((((s4.put 1 (intV (sumT X k + (X.getD k 0).toNat))).next.put 2 (intV (k + 1))).next).goTo 3) := e7
 have z : s4.over.e = 0 := by rw [g8]
 refine ⟨(((s4.put 1 (intV (sumT X k + (X.getD k 0).toNat))).next.put 2 (intV (k + 1))).next).goTo 3, ⟨g9, rfl, rfl, rfl, g5, g6, g11, g7, g8⟩, ((((((Gt.one h.run e1).trans (Gt.one h1.run e2)).trans (Gt.one h2.run e3)).trans (Gt.one h3.run e4)).trans (Gt.one z e5)).trans (Gt.one z e6)).trans (Gt.one z e7')⟩
theorem sm_rounds {X : List UInt8} (hX : X.length ≤ 32) {s : Ms} (h : Sm X 0 3 s) : ∀ k, k ≤ X.length → ∃ t, Sm X k 3 t ∧ Gt (smQ X.length) (7 * k) s t
 | 0, _ => ⟨s, h, fun f => by rw [Nat.mul_zero, Nat.zero_add]⟩
 | k + 1, hk => by
   obtain ⟨t, h1, g1⟩ := sm_rounds hX h k (by omega)
   obtain ⟨u, h2, g2⟩ := sm_round hX h1 (by omega)
   exact ⟨u, h2, g1.trans g2⟩
theorem sm_all {X : List UInt8} (hX : X.length ≤ 32) (s : Ms) (hg : s.at_.gate = 0) (hp : s.at_.pc = 0) (h8 : s.at_.regs 8 = ⟨true, 0, ⟨0, 32, 0, 3, 0⟩⟩) (hb : ∀ a, a < X.length → s.b a = X.getD a 0) (ht : s.tou = []) (he : s.over = ⟨0, 0, 0⟩) : ∃ t, Sm X X.length 10 t ∧ Gt (smQ X.length) (3 + 7 * X.length + 1) s t := by
 obtain ⟨t, h1, g1⟩ := sm_begin X hX s hg hp h8 hb ht he
 obtain ⟨u, h2, g2⟩ := sm_rounds hX h1 X.length (Nat.le_refl _)
 have e := sm_bge h2
 rw [if_pos (Int.le_refl _)] at e
 exact ⟨u.goTo 10, ⟨h2.g, rfl, h2.r1, h2.r2, h2.r3, h2.r8, h2.b, h2.tou, h2.e⟩, (g1.trans g2).trans (Gt.one h2.run e)⟩
theorem sm_halt {X : List UInt8} {t : Ms} (h : Sm X X.length 10 t) : stepM (smQ X.length) t = .error ⟨1, sumT X X.length, 0⟩ := by
 rw [sm_step (n := X.length) h.g h.pc ⟨27, 1, 0, 0, 0⟩ rfl]
 show haltM t 1 = _
 unfold haltM
 rw [h.r1]
 rfl
theorem sm_run {X : List UInt8} (hX : X.length ≤ 32) (s : Ms) (hg : s.at_.gate = 0) (hp : s.at_.pc = 0) (h8 : s.at_.regs 8 = ⟨true, 0, ⟨0, 32, 0, 3, 0⟩⟩) (hb : ∀ a, a < X.length → s.b a = X.getD a 0) (ht : s.tou = []) (he : s.over = ⟨0, 0, 0⟩) :
   tl (runM (smQ X.length) ((3 + 7 * X.length + 2 : Nat) : Int) s) = [.int .i64 1, .int .u64 (sumT X X.length), .int .i64 0, .int .i64 0, .int .i64 10] ∧ (runM (smQ X.length) ((3 + 7 * X.length + 2 : Nat) : Int) s).tou.length = X.length ∧
   tl (runM (smQ X.length) ((3 + 7 * X.length + 1 : Nat) : Int) s) = [.int .i64 4, .int .u64 0, .int .i64 0, .int .i64 0, .int .i64 10] := by
 obtain ⟨t, h, g⟩ := sm_all hX s hg hp h8 hb ht he
 have e1 : stepsM (smQ X.length) (3 + 7 * X.length + 2) s = t.ended ⟨1, sumT X X.length, 0⟩ := by
   rw [show 3 + 7 * X.length + 2 = (3 + 7 * X.length + 1) + 1 by omega, g, stepsM_err h.run (sm_halt h)]
 have e2 : stepsM (smQ X.length) (3 + 7 * X.length + 1) s = t := by
   have := g 0
   rw [Nat.add_zero] at this
   exact this
 have m1 : (min ((3 + 7 * X.length + 2 : Nat) : Int) 100000).toNat = 3 + 7 * X.length + 2 := by omega
 have m2 : (min ((3 + 7 * X.length + 1 : Nat) : Int) 100000).toNat = 3 + 7 * X.length + 1 := by omega
 have r1 : runM (smQ X.length) ((3 + 7 * X.length + 2 : Nat) : Int) s = t.ended ⟨1, sumT X X.length, 0⟩ := by
   unfold runM; rw [m1, e1]; rfl
 have r2 : runM (smQ X.length) ((3 + 7 * X.length + 1 : Nat) : Int) s = t.ended ⟨4, 0, 0⟩ := by
   unfold runM; rw [m2, e2]; unfold spent; rw [if_pos h.run]
 rw [r1, r2]
 refine ⟨?_, h.tou, ?_⟩
 · show [Value.int .i64 1, .int .u64 (sumT X X.length), .int .i64 0, .int .i64 t.at_.gate, .int .i64 t.at_.pc] = _
   rw [h.g, h.pc]; rfl
 · show [Value.int .i64 4, .int .u64 0, .int .i64 0, .int .i64 t.at_.gate, .int .i64 t.at_.pc] = _
   rw [h.g, h.pc]; rfl
theorem sm_right (X : List UInt8) (hX : X.length ≤ 32) (hz : endsNought X = false) : (smP X).right = 0 := by
 have hc : codeR (smCode X.length) 1 = 0 := by
   have : ∀ n, n ≤ 32 → codeR (smCode n) 1 = 0 := by
     intro n hn
     have hall : (List.range 33).all (fun n => codeR (smCode n) 1 == 0) = true := by kernel_rfl
     have := List.all_eq_true.1 hall n (List.mem_range.2 (by omega))
     simpa using this
   exact this _ hX
 have hr : regsR (smP X).regs 0 = 0 := by
   show (if placeB 0 32 0 && contentB 32 X 0 then (if slotsR [] then regsR [] (0 + 32) else 45) else 43) = (0 : Int)
   have h1 : contentB 32 X 0 = true := by
     unfold contentB
     rw [if_neg (by omega), hz]
     simp; omega
   rw [h1]
   rfl
 unfold PImg.right
 rw [if_pos (by rfl), if_pos hr]
 have hk : compsR (smP X).gates.length (smP X).comps = 0 := by
   show (if rootsR [⟨8, 0, 32, 0, 3, 0⟩] 7 then (if codeR (smCode X.length) 1 = 0 then compsR 1 [] else codeR (smCode X.length) 1) else _) = (0 : Int)
   rw [hc]
   rfl
 rw [if_pos hk]
 show gatesR [⟨[⟨8, 0, 32, 0, 3, 0⟩], smCode X.length⟩] [⟨0, 0, [], []⟩] = 0
 rfl
theorem lay_at (b : Nat → UInt8) (l : List UInt8) : ∀ k a, a < k → k ≤ l.length → layB b 0 l k a = l.getD a 0
 | 0, _, h, _ => by omega
 | k + 1, a, h, hk => by
   show upd (layB b 0 l k) (0 + k) (l.getD k 0) a = _
   unfold upd
   by_cases e : a = 0 + k
   · rw [if_pos e, e, Nat.zero_add]
   · rw [if_neg e]; exact lay_at b l k a (by omega) (by omega)
theorem sm_mem (X : List UInt8) (hX : X.length ≤ 32) (a : Nat) (h : a < X.length) : (start (smP X) 0 [] []).b a = X.getD a 0 := by
 have ht : inMem 0 X = X := by unfold inMem; exact List.take_of_length_le (by omega)
 show layB (fun _ => 0) 0 (inMem 0 X) (inMem 0 X).length a = _
 rw [ht]
 exact lay_at _ X X.length a h (Nat.le_refl _)
theorem sm_rng (X : List UInt8) (hX : X.length ≤ 32) : (smP X).Rng := by
 refine ⟨⟨show 1 ≤ maxG by decide, fun r hr => ?_⟩, ⟨show 1 ≤ maxG by decide, fun c hc => ?_⟩, ⟨show 1 ≤ maxG by decide, fun g hg => ?_⟩, show (-9223372036854775808 : Int) ≤ 1 by decide, show (1 : Int) < 9223372036854775808 by decide⟩
 · obtain rfl := List.mem_singleton.1 hr
   exact ⟨⟨show (0 : Int) ≤ 0 by decide, show (0 : Int) < 18446744073709551616 by decide⟩, ⟨show (0 : Int) ≤ 32 by decide, show (32 : Int) < 18446744073709551616 by decide⟩, show X.length ≤ maxG from Nat.le_trans hX (by decide), show 0 ≤ maxG by decide, fun k hk => by cases hk⟩
 · obtain rfl := List.mem_singleton.1 hc
   refine ⟨show 1 ≤ maxG by decide, show 11 ≤ maxI by decide, fun k hk => ?_, fun k hk => ?_⟩
   · simp only [smCode, List.mem_cons, List.not_mem_nil, or_false] at hk
     rcases hk with rfl | rfl | rfl | rfl | rfl | rfl | rfl | rfl | rfl | rfl | rfl
     all_goals exact ⟨by simp, by simp⟩
   · obtain rfl := List.mem_singleton.1 hk
     exact ⟨⟨by decide, by decide⟩, ⟨by decide, by decide⟩, ⟨by decide, by decide⟩, ⟨by decide, by decide⟩, ⟨by decide, by decide⟩, by decide, by decide⟩
 · obtain rfl := List.mem_singleton.1 hg
   exact ⟨⟨by decide, by decide⟩, ⟨by decide, by decide⟩, by decide, by decide, fun k hk => (by cases hk), fun k hk => by cases hk⟩
theorem sm_ent (X : List UInt8) : isEnt (smP X) 0 = true := rfl
end C
end Go.Proofs.YthmlkcglglcljaaGreatDoor


namespace Go.Proofs.YthmlkcglglcljaaGreatDoor
set_option maxRecDepth 100000
set_option maxHeartbeats 40000000
namespace C
open Go.RowKit
open T (Sep Ob Kp Mf TgIn boxOb Fm Tc Ed Vl Cp Bx tgOb mRow updV flt)

def x20 : Array Value := #[.int .u8 1, .int .i64 1, .int .i64 0, .int .i64 0, .int .i64 5, .int .u8 62, .int .i64 1, .int .i64 8, .int .i64 0, .int .i64 3, .int .u8 60, .int .i64 2, .int .i64 8, .int .i64 0, .int .i64 3, .int .u8 27, .int .i64 2, .int .i64 0, .int .i64 0, .int .i64 0]
theorem x_lin {W : World} {b : Nat} (h : At W b x20) : LIn W.heap.size W (some ⟨b, 0, none⟩) xCode := fun i hi => by
 have hi' : i < 4 := hi
 refine ⟨b, 0, rfl, h.1, h.1, ?_⟩
 match i, hi' with
 | 0, _ => exact ⟨h.2.1 0, h.2.1 1, h.2.1 2, h.2.1 3, h.2.1 4⟩
 | 1, _ => exact ⟨h.2.1 5, h.2.1 6, h.2.1 7, h.2.1 8, h.2.1 9⟩
 | 2, _ => exact ⟨h.2.1 10, h.2.1 11, h.2.1 12, h.2.1 13, h.2.1 14⟩
 | 3, _ => exact ⟨h.2.1 15, h.2.1 16, h.2.1 17, h.2.1 18, h.2.1 19⟩
theorem own_two {w : World} {lo : Nat} {v : Value} {L : List Tc} (h : w.ownsRow lo 78 3 v L.length (L.flatMap Tc.row)) : ∃ va c, v = .slice va L.length c ∧ T.EIn 3 Tc.row w va L := by
 have hlt := h.lt
 rcases h.2 with ⟨rfl, h9⟩ | ⟨g, cap, cur, rfl, hb, hg, hc1, hc2, hc3, hc4⟩
 · exact ⟨none, 0, by rw [h9], fun i hi => by omega⟩
 · refine ⟨_, cap, rfl, fun i hi => ⟨g, 0, rfl, (hlt g rfl).2, fun j u q => ?_⟩⟩
   have hj : j < 3 := by have := (List.getElem?_eq_some_iff.1 q).1; simpa [Tc.row] using this
   have hf := flat_at' (f := Tc.row) (k := 3) (fun _ => rfl) L i hi j hj
   rw [q, ← hc4, List.getElem?_take_of_lt (by
     have : (i + 1) * 3 ≤ L.length * 3 := Nat.mul_le_mul_right 3 hi
     omega)] at hf
   have : w.cell? ⟨g, 0 + i * 3 + j, none⟩ = cur[i * 3 + j]? := by simp [World.cell?, hg]
   rw [this, ← hf]
   simp
theorem num_any (e : Int) (w : World) : Calls Tryz.prog 19 #[.int .i64 e] w fun x w' => x = .returned (.int .i64 e) ∧ w' = w := by
 go_enter Tryz.func19, Tryz.ntmps19
 go_wp2_with fail
 go_ret
 exact ⟨rfl, rfl⟩
theorem examples_any (w : World) (ht : TabIn w) : Calls Tryz.prog 6 #[] w fun x w' => x = .returned (.bool true) ∧ Bl w w' := by
 have hA0 := Hz.mk (At.new w x20 56)
 have gA : Hz (Bl w (w.alloc (.cells x20 56))) := Hz.mk ((Bl.refl w).alloc _)
 have hT0 : Hz (TabIn (w.alloc (.cells x20 56))) := Hz.mk (ht.gr ((Gr.refl w).alloc _))
 clear ht
 unfold x20 at *
 go_enter Tryz.func6, Tryz.ntmps6
 go_wp2_with fail
 generalize w.alloc _ = W1 at *
 refine (one_any w.heap.size 4 4 W1).mono ?_
 rintro r W2 ⟨k1, k2, k3, k4, rfl, a1, a2, a3, a4, g2⟩
 have hImg := Hz.mk (img_one a1 a2 a3 a4 (x_lin (Bl.at_ g2 hA0.out)))
 have gw := gA.out.trans g2
 have hTab2 := Hz.mk (hT0.out.below g2 hT0.out.size)
 have hNew : Hz (∀ X, Bl W2 X → Calls Tryz.prog 13 #[.agg #[.slice (some ⟨k1, 0, none⟩) 1 1, .slice (some ⟨k3, 0, none⟩) 1 1, .slice (some ⟨k4, 0, none⟩) 1 1, .int .i64 1], .int .i64 0, .slice none 0 0, .slice none 0 0] X fun x w' => ∃ a, x = .returned (.tuple #[.pointer (some ⟨a, 0, none⟩), .int .i64 0]) ∧ MIn X.heap.size w' a (bare xP) (start xP 0 [] []) [] ∧ Below X.heap.size X w') := Hz.mk (fun X q => new_ok xP 0 [] [] (some ⟨k1, 0, none⟩) (some ⟨k3, 0, none⟩) (some ⟨k4, 0, none⟩) none none 1 1 1 0 0 X (hTab2.out.below q hTab2.out.size) ((hImg.out.below q).mono q.size) x_rng x_right x_ent rfl (fun i hi => absurd hi (Nat.not_lt_zero i)) (.inl ⟨rfl, rfl, rfl⟩) (Nat.zero_le _))
 have gX : Bl W2 (W2.alloc (.cells #[.slice (some ⟨k1, 0, none⟩) 1 1, .slice (some ⟨k3, 0, none⟩) 1 1, .slice (some ⟨k4, 0, none⟩) 1 1, .int .i64 1] 26)) := (Bl.refl W2).alloc _
 replace gw := Hz.mk (gw.trans gX)
 replace gX := Hz.mk gX
 have hR := Hz.mk (fun B Y a l' (q : MIn B Y a (bare xP) (start xP 0 [] []) l') => run_any B Y a (bare xP) (start xP 0 [] []) l' 0 10 (pok_of xP x_right x_rng) q (start_ok x_right x_rng (by decide) (fun x hx => by cases hx) (fun x hx => by cases hx) (Nat.zero_le _)) (by decide))
 have e1 := x_tl
 have e2 := x_tou
 generalize runM (bare xP) 10 (start xP 0 [] []) = s9 at *
 rw [e1] at hR
 replace e1 := Hz.mk e1
 have hTo := Hz.mk (fun B Y a l' (q : MIn B Y a (bare xP) s9 l') => tou_any B a (bare xP) s9 l' Y q (by rw [e2]; decide))
 rw [e2] at hTo
 replace e2 := Hz.mk e2
 have hNum := Hz.mk num_any
 clear a1 a2 a3 a4 g2 hImg hTab2 hT0 hA0 gA
 go_wp2_with fail
 refine (hNew.out _ gX.out).mono ?_
 rintro r W3 ⟨a, rfl, hM, hB3⟩
 have hwB := gw.out.size
 replace gw := Hz.mk (gw.out.trans hB3)
 replace hM := Hz.mk hM
 clear hNew gX hB3
 generalize (W2.alloc _).heap.size = B at *
 go_wp2_with (refine (hNum.out _ _).mono ?_; rintro r X9 ⟨rfl, rfl⟩)
 refine (hR.out _ _ _ _ hM.out).mono ?_
 rintro r W4 ⟨rfl, h4, hB4⟩
 have g4 : Hz (Bl w W4) := Hz.mk (Below.trans gw.out (Below.mono hB4 hwB))
 replace h4 := Hz.mk h4
 clear hB4 hM hR gw
 have hT4 := Hz.mk (hTo.out _ _ _ _ (h4.out.gr ((Bl.refl W4).alloc (.cells #[.int .i64 1, .int .u64 5, .int .i64 0, .int .i64 0, .int .i64 3] 45))))
 clear hTo
 go_wp2_with fail
 refine hT4.out.mono ?_
 rintro r W6 ⟨v, rfl, hown, hB6⟩
 have a6 := Bl.at_ hB6 (At.new W4 #[.int .i64 1, .int .u64 5, .int .i64 0, .int .i64 0, .int .i64 3] 45)
 have ⟨_, p6, _⟩ := a6
 replace g4 := Hz.mk ((g4.out.alloc (.cells #[.int .i64 1, .int .u64 5, .int .i64 0, .int .i64 0, .int .i64 3] 45)).trans hB6)
 obtain ⟨va, c, rfl, hE⟩ := own_two (L := [⟨true, 3, 1⟩, ⟨false, 3, 1⟩]) hown
 obtain ⟨b, off, rfl, hb, h0⟩ := hE 0 (by decide)
 obtain ⟨b', off', e9, _, h1⟩ := hE 1 (by decide)
 injection e9 with e9
 injection e9 with e8 e9
 subst e8 e9
 have t0 : W6.cell? ⟨b, off, none⟩ = some (.bool true) := h0 0 _ rfl
 have t1 : W6.cell? ⟨b, off + 1, none⟩ = some (.int .u64 3) := h0 1 _ rfl
 have t2 : W6.cell? ⟨b, off + 2, none⟩ = some (.int .u64 1) := h0 2 _ rfl
 have t3 : W6.cell? ⟨b, off + 3, none⟩ = some (.bool false) := h1 0 _ rfl
 have t4 : W6.cell? ⟨b, off + 3 + 1, none⟩ = some (.int .u64 3) := h1 1 _ rfl
 have t5 : W6.cell? ⟨b, off + 3 + 2, none⟩ = some (.int .u64 1) := h1 2 _ rfl
 replace a6 := Hz.mk a6
 clear hE h0 h1 hown hB6 hT4 h4
 go_wp2_with fail
 go_ret
 exact ⟨rfl, g4.out⟩
end C
end Go.Proofs.YthmlkcglglcljaaGreatDoor


namespace Go.Proofs.YthmlkcglglcljaaGreatDoor
namespace C
open Go.RowKit
open T (Sep Ob Kp Mf TgIn boxOb Fm Tc Ed Vl Cp Bx tgOb mRow updV flt)

end C
end Go.Proofs.YthmlkcglglcljaaGreatDoor


namespace Go.Proofs.YthmlkcglglcljaaGreatDoor
namespace Q
open Go.RowKit

theorem ins_len (x : Ins) : x.vals.length = 5 := rfl
theorem typ_len (x : PTyp) : x.vals.length = 7 := rfl
theorem typ_one (x : PTyp) : ∀ v ∈ x.vals, v.oneCell' = true := by
 intro v h
 simp only [PTyp.vals, List.mem_cons, List.not_mem_nil, or_false] at h
 rcases h with rfl | rfl | rfl | rfl | rfl | rfl | rfl <;> rfl
end Q
end Go.Proofs.YthmlkcglglcljaaGreatDoor
