import Derived.Test.YtiigpncfmakgjaaGreatDoorJ43
import Derived.Laws.BitsAllLaws
namespace Go.Proofs.YtiigpncfmakgjaaGreatDoor
namespace C
open Go.RowKit
open T (Sep Ob Kp Mf TgIn boxOb Fm Tc Ed Vl Cp Bx tgOb mRow updV flt)

def entN (A : List Nat) (n : Nat) : List Nat := (List.range n).map fun i => A.getD i i
theorem entN_len (A : List Nat) (n : Nat) : (entN A n).length = n := by simp [entN]
theorem entN_succ (A : List Nat) (n : Nat) : entN A (n + 1) = entN A n ++ [A.getD n n] := by simp [entN, List.range_succ]
def uN (x : Nat) : Value := .int .u64 (x : Int)
theorem own_numin {w : World} {lo : Nat} {v : Value} {L : List Nat} (h : w.ownsRow lo 32 1 v L.length (L.map uN)) : ∃ va c, v = .slice va L.length c ∧ NumIn w va L := by
 have hlt := h.lt
 rcases h.2 with ⟨rfl, h9⟩ | ⟨g, cap, cur, rfl, hb, hg, hc1, hc2, hc3, hc4⟩
 · exact ⟨none, 0, by rw [h9], fun i hi => by omega⟩
 · refine ⟨_, cap, rfl, fun i hi => ⟨g, 0, rfl, (hlt g rfl).2, ?_⟩⟩
   have : w.cell? ⟨g, 0 + i, none⟩ = cur[i]? := by simp [World.cell?, hg]
   rw [this]
   have h2 : (L.map uN)[i]? = some (.int .u64 L[i]) := by simp [hi, uN]
   rw [← hc4, List.getElem?_take_of_lt (by omega)] at h2
   rw [← h2]
   simp
end C
end Go.Proofs.YtiigpncfmakgjaaGreatDoor


namespace Go.Proofs.YtiigpncfmakgjaaGreatDoor
namespace C
open Go.RowKit
open T (Sep Ob Kp Mf TgIn boxOb Fm Tc Ed Vl Cp Bx tgOb mRow updV flt)

theorem TabIn.bl {w W : World} (h : TabIn w) (g : Bl w W) : TabIn W := h.below g h.size
theorem ents_lt (A : List Nat) (n : Nat) (hA : ∀ x ∈ A, x < 18446744073709551616) (hn : n ≤ 1000) : ∀ x ∈ entN A n, x < 18446744073709551616 := fun x hx => by
 obtain ⟨i, hi, rfl⟩ := List.mem_map.1 hx
 have hi' : i < n := List.mem_range.1 hi
 by_cases h : i < A.length
 · have e : A.getD i i = A[i] := by simp [h]
   rw [e]
   exact hA _ (List.getElem_mem h)
 · have e : A.getD i i = i := by simp [h]
   omega
theorem own_numn {w : World} {lo n : Nat} {v : Value} {L : List Nat} (hl : L.length = n) (h : w.ownsRow lo 32 1 v n (L.map uN)) : ∃ va c, v = .slice va n c ∧ NumIn w va L := by
 subst hl
 exact own_numin h
theorem eq_len {m : PImg} {g : Nat} (hg : g < m.gates.length) (A : List Nat) : (entN A m.gates[g].args.length).length = (argsOf m g).length := by rw [entN_len, argsOf_at m g hg]
end C
end Go.Proofs.YtiigpncfmakgjaaGreatDoor


namespace Go.Proofs.YtiigpncfmakgjaaGreatDoor
namespace C
open Go.RowKit
open T (Sep Ob Kp Mf TgIn boxOb Fm Tc Ed Vl Cp Bx tgOb mRow updV flt ofI)

def EdOk (e : Ed) : Prop := e.e ≠ 0 ∧ e.e ≠ 4 ∧ (e.f ≠ 0 ↔ e.e = 7)
theorem ed_flt (f : Int) (hf : f ≠ 0) : EdOk (flt f) := ⟨by show (7 : Int) ≠ 0; decide, by show (7 : Int) ≠ 4; decide, fun _ => rfl, fun _ => hf⟩
section
variable {P : PImg} {s s' : Ms} {e : Ed}
theorem ed_two {op : Int} {v u : Vl} (h : twoR op v u = .error e) : EdOk e := by
 unfold twoR at h
 split at h
 · injection h with h; subst h; exact ed_flt _ (by first | decide | assumption)
 · split at h
   · injection h with h; subst h; exact ed_flt _ (by first | decide | assumption)
   · cases h
theorem ed_rec {op m : Int} {B C : Nat} (h : recM s op B C m = .error e) : EdOk e := by
 unfold recM at h
 split at h
 · cases h
 split at h
 · cases h
 split at h
 · split at h
   · injection h with h; subst h; exact ed_flt _ (by first | decide | assumption)
   · cases h
 · exact ed_two h
theorem lay_err {q : Except Ed Vl} {A : Nat} (h : layM s A q = .error e) : q = .error e := by
 cases q with
 | error x => injection h with h; subst h; rfl
 | ok v => cases h
theorem ed_made {op m : Int} {v u : Vl} (h : madeR op m v u = .error e) : EdOk e := by
 unfold madeR at h
 repeat' split at h
 all_goals first
   | (injection h with h; subst h; exact ed_flt _ (by first | decide | assumption))
   | cases h
theorem ed_der {op m : Int} {v u : Vl} (h : derR op m v u = .error e) : EdOk e := by
 unfold derR at h
 cases hq : madeR op m v u with
 | error x => rw [hq] at h; injection h with h; subst h; exact ed_made hq
 | ok r =>
   rw [hq] at h
   simp only at h
   split at h
   · cases h
   · injection h with h; subst h; exact ed_flt _ (by first | decide | assumption)
theorem ed_ask {op : Int} {v u : Vl} (h : askR op v u = .error e) : EdOk e := by
 unfold askR at h
 split at h
 · cases h
 split at h
 · cases h
 split at h
 · cases h
 · injection h with h; subst h; exact ed_flt _ (by first | decide | assumption)
theorem ed_plc {m sz p : Int} {v : Vl} (h : plcR m sz p v = .error e) : EdOk e := by
 unfold plcR at h
 split at h
 · split at h
   · cases h
   · injection h with h; subst h; exact ed_flt _ (by first | decide | assumption)
 · injection h with h; subst h; exact ed_flt _ (by first | decide | assumption)
theorem ed_gran {m p : Int} {v : Vl} (h : granR m p v = .error e) : EdOk e := by
 unfold granR at h
 cases hq : plcR m 16 p v with
 | error x => rw [hq] at h; injection h with h; subst h; exact ed_plc hq
 | ok n =>
   rw [hq] at h
   simp only at h
   split at h
   · cases h
   · injection h with h; subst h; exact ed_flt _ (by first | decide | assumption)
theorem ed_load {A B sz : Nat} {m : Int} (h : loadM s A B m sz = .error e) : EdOk e := by
 unfold loadM at h
 split at h
 · rename_i x hq; injection h with h; subst h; exact ed_plc hq
 · split at h
   · cases h
   · injection h with h; subst h; exact ed_flt _ (by first | decide | assumption)
theorem ed_store {A B sz : Nat} {m : Int} (h : storeM s A B m sz = .error e) : EdOk e := by
 unfold storeM at h
 split at h
 · injection h with h; subst h; exact ed_flt _ (by first | decide | assumption)
 · split at h
   · rename_i x hq; injection h with h; subst h; exact ed_plc hq
   · split at h
     · cases h
     · injection h with h; subst h; exact ed_flt _ (by first | decide | assumption)
theorem ed_touch {op m : Int} {A B : Nat} (h : touM s op A B m = .error e) : EdOk e := by
 unfold touM at h
 split at h
 · exact ed_load h
 split at h
 · exact ed_load h
 split at h
 · exact ed_store h
 split at h
 · exact ed_store h
 split at h
 · unfold ldcM at h
   split at h
   · rename_i x hq; injection h with h; subst h; exact ed_gran hq
   · split at h
     · cases h
     · injection h with h; subst h; exact ed_flt _ (by first | decide | assumption)
 · unfold stcM at h
   split at h
   · rename_i x hq; injection h with h; subst h; exact ed_gran hq
   · split at h
     · cases h
     · injection h with h; subst h; exact ed_flt _ (by first | decide | assumption)
theorem ed_hol {op m : Int} {v : Vl} (h : holR op m v = .error e) : EdOk e := by
 unfold holR at h
 split at h
 · split at h
   · injection h with h; subst h; exact ed_flt _ (by first | decide | assumption)
   · cases h
 split at h
 · split at h
   · injection h with h; subst h; exact ed_flt _ (by first | decide | assumption)
   · cases h
 split at h
 · cases h
 split at h
 · split at h
   · cases h
   · split at h
     · cases h
     · cases h
 · injection h with h; subst h; exact ed_flt _ (by first | decide | assumption)
theorem ed_tgt {k : Nat} {v : Vl} (h : tgtR P k v = .error e) : EdOk e := by
 unfold tgtR at h
 split at h
 · split at h
   · split at h
     · cases h
     · injection h with h; subst h; exact ed_flt _ (by first | decide | assumption)
   · injection h with h; subst h; exact ed_flt _ (by first | decide | assumption)
 · injection h with h; subst h; exact ed_flt _ (by first | decide | assumption)
theorem ed_lit {a b : Int} (h : a ≠ 0 ∧ a ≠ 4 ∧ a ≠ 7) : EdOk ⟨a, b, 0⟩ := ⟨h.1, h.2.1, fun q => absurd rfl q, fun q => absurd q h.2.2⟩
theorem step_end (h : stepM P s = .error e) : EdOk e := by
 unfold stepM at h
 split at h
 · injection h with h; subst h; exact ed_flt _ (by first | decide | assumption)
 · rename_i i _
   unfold insM at h
   split at h
   · exact ed_rec (lay_err h)
   split at h
   · unfold strM at h
     split at h
     · cases h
     split at h
     · unfold braM at h
       split at h
       · injection h with h; subst h; exact ed_flt _ (by first | decide | assumption)
       · split at h
         · injection h with h; subst h; exact ed_flt _ (by first | decide | assumption)
         · cases h
     split at h
     · cases h
     split at h
     · unfold goR at h
       split at h
       · cases h
       · rename_i x hq; injection h with h; subst h; exact ed_tgt hq
     split at h
     · unfold haltM at h
       split at h
       · injection h with h; subst h; exact ed_flt _ (by first | decide | assumption)
       · injection h with h; subst h; exact ed_lit (by decide)
     split at h
     · injection h with h; subst h; exact ed_lit (by decide)
     split at h
     · unfold inM at h
       split at h
       · injection h with h; subst h; exact ed_lit (by decide)
       · cases h
     split at h
     · unfold outM at h
       split at h
       · injection h with h; subst h; exact ed_flt _ (by first | decide | assumption)
       · cases h
     split at h
     · unfold callM at h
       split at h
       · split at h
         · injection h with h; subst h; exact ed_lit (by decide)
         · cases h
       · injection h with h; subst h; exact ed_flt _ (by first | decide | assumption)
     · unfold retM at h
       split at h
       · split at h
         · injection h with h; subst h; exact ed_lit (by decide)
         · cases h
       · injection h with h; subst h; exact ed_flt _ (by first | decide | assumption)
   split at h
   · have h1 := lay_err h
     unfold capV at h1
     split at h1
     · cases h1
     · rename_i x hq; injection h1 with h1; subst h1; exact ed_der hq
   split at h
   · have h1 := lay_err h
     unfold nmbV at h1
     split at h1
     · cases h1
     · rename_i x hq; injection h1 with h1; subst h1; exact ed_ask hq
   split at h
   · exact ed_touch h
   · unfold grdR at h
     split at h
     · rename_i x hq; injection h with h; subst h; exact ed_hol hq
     · cases h
     · injection h with h; subst h; exact ed_lit (by decide)
theorem step_err (h : stepM P s = .error e) : e.e ≠ 0 := (step_end h).1
end
end C
end Go.Proofs.YtiigpncfmakgjaaGreatDoor


namespace Go.Proofs.YtiigpncfmakgjaaGreatDoor
namespace C
open Go.RowKit
open T (Sep Ob Kp Mf TgIn boxOb Fm Tc Ed Vl Cp Bx tgOb mRow updV flt ofI hasB holdsB accessF)

def wiB (c d : Cp) : Bool := decide (d.b ≤ c.b) && decide (c.e ≤ d.e) && hasB d.p c.p
theorem has_self : ∀ p : Int, 0 ≤ p → p < 256 → hasB p p = true := fun p h0 h1 => by
 have := all_bytes (fun n => hasB n n) (by kernel_rfl) p h1
 simpa [Int.toNat_of_nonneg h0] using this
theorem and_less (p q : Int) (hp : 0 ≤ p ∧ p < 256) (hq : 0 ≤ q ∧ q < 256) : hasB p (bits .and .u8 p q) = true := by
 obtain ⟨a, rfl⟩ := Int.eq_ofNat_of_zero_le hp.1
 obtain ⟨b, rfl⟩ := Int.eq_ofNat_of_zero_le hq.1
 have ha : a < 256 := by omega
 have hb : b < 256 := by omega
 rw [u8_and _ _ hp.1 hp.2 hq.1 hq.2]
 simp only [Int.toNat_natCast]
 have hle : a &&& b ≤ a := Nat.and_le_left
 unfold hasB
 rw [u8_andNot_nat _ _ (by omega) (by omega)]
 have hs : ∀ j, (255 - a).testBit j = (decide (j < 8) && !a.testBit j) := by
   intro j
   have := Nat.testBit_two_pow_sub_succ (x := a) (n := 8) (by simpa using ha) j
   simpa using this
 have : (a &&& b) &&& (255 - a) = 0 := by
   apply Nat.eq_of_testBit_eq
   intro j
   rw [Nat.testBit_and, Nat.testBit_and, hs, Nat.zero_testBit]
   cases a.testBit j <;> simp
 rw [this]
 rfl
theorem wi_self {c : Cp} (h : COk c) : wiB c c = true := by
 unfold wiB
 rw [has_self _ h.p.1 h.p.2]
 simp
theorem wi_same {c d : Cp} (h : COk d) (hb : c.b = d.b) (he : c.e = d.e) (hp : c.p = d.p) : wiB c d = true := by
 unfold wiB
 rw [hb, he, hp, has_self _ h.p.1 h.p.2]
 simp
def Had (r : Nat → Vl) (k c : Cp) : Prop := wiB c k = true ∨ ∃ i, i < 16 ∧ (r i).g = true ∧ wiB c (r i).c = true
theorem inc_wi {k : Cp} (hv : COk k) {n : Int} (q : (incF k n).2 = 0) : wiB (incF k n).1 k = true := by
 unfold incF at q ⊢
 by_cases hs : k.s = 0
 · rw [if_pos hs]; exact wi_same hv rfl rfl rfl
 · rw [if_neg hs] at q; exact absurd q (by decide)
theorem set_wi {k : Cp} (hv : COk k) {n : Int} (hn : 0 ≤ n) (q : (setF k n).2 = 0) : wiB (setF k n).1 k = true := by
 unfold setF at q ⊢
 by_cases hs : k.s = 0
 · rw [if_pos hs] at q ⊢
   by_cases hh : holdsB k.b k.e k.c n = true
   · rw [if_pos hh]
     unfold holdsB at hh
     rw [Bool.and_eq_true, Bool.and_eq_true, decide_eq_true_eq, decide_eq_true_eq, decide_eq_true_eq, IntKind.wrap_u64] at hh
     have h1 := hv.e
     have h2 := hv.c
     have h3 := h1.2
     have h4 := h2.1
     have h5 : IntKind.u64.wrap (k.c + n) ≤ k.e := by rw [IntKind.wrap_u64]; omega
     unfold wiB
     show (decide (k.b ≤ k.c) && decide (IntKind.u64.wrap (k.c + n) ≤ k.e) && hasB k.p k.p) = true
     rw [has_self _ hv.p.1 hv.p.2, decide_eq_true hh.1.1, decide_eq_true h5]
     rfl
   · rw [if_neg hh] at q; exact absurd q (by decide)
 · rw [if_neg hs] at q; exact absurd q (by decide)
theorem and_wi {k : Cp} (hv : COk k) {n : Int} (hn : 0 ≤ n ∧ n < 256) (q : (andF k n).2 = 0) : wiB (andF k n).1 k = true := by
 unfold andF at q ⊢
 by_cases hs : k.s = 0
 · rw [if_pos hs]
   unfold wiB
   show (decide (k.b ≤ k.b) && decide (k.e ≤ k.e) && hasB k.p (bits .and .u8 k.p n)) = true
   rw [and_less _ _ hv.p hn, decide_eq_true (Int.le_refl _), decide_eq_true (Int.le_refl _)]
   rfl
 · rw [if_neg hs] at q; exact absurd q (by decide)
theorem seal_wi {k y : Cp} (hv : COk k) (q : (sealF k y).2 = 0) : wiB (sealF k y).1 k = true := by
 unfold sealF at q ⊢
 by_cases h1 : k.s = 0
 · rw [if_pos h1] at q ⊢
   by_cases h2 : keyC y 32 = 0
   · rw [if_pos h2] at q ⊢
     by_cases h3 : y.c < 1 ∨ 15 < y.c
     · rw [if_pos h3] at q; exact absurd q (by decide)
     · rw [if_neg h3]; exact wi_same hv rfl rfl rfl
   · rw [if_neg h2] at q; exact absurd q h2
 · rw [if_neg h1] at q; exact absurd q (by decide)
theorem uns_wi {k y : Cp} (hv : COk k) (q : (unsF k y).2 = 0) : wiB (unsF k y).1 k = true := by
 unfold unsF at q ⊢
 by_cases h1 : k.s = 0
 · rw [if_pos h1] at q; exact absurd q (by decide)
 · rw [if_neg h1] at q ⊢
   by_cases h2 : keyC y 64 = 0
   · rw [if_pos h2] at q ⊢
     by_cases h3 : k.s < 0 ∨ y.c ≠ k.s
     · rw [if_pos h3] at q; exact absurd q (by decide)
     · rw [if_neg h3]; exact wi_same hv rfl rfl rfl
   · rw [if_neg h2] at q; exact absurd q h2
theorem made_wi {op m : Int} {v u : Vl} {r : Cp × Int} (hv : COk v.c) (h : madeR op m v u = .ok r) (h0 : r.2 = 0) : v.g = true ∧ wiB r.1 v.c = true := by
 have hw : 0 ≤ u64W m := by unfold u64W; rw [IntKind.wrap_u64]; omega
 have hw8 : 0 ≤ IntKind.u8.wrap m ∧ IntKind.u8.wrap m < 256 := by rw [IntKind.wrap_u8]; omega
 have hun : (0 : Int) ≤ (u.n : Int) := by omega
 unfold madeR at h
 by_cases hg : v.g = true
 · refine ⟨hg, ?_⟩
   rw [if_pos hg] at h
   by_cases o40 : op = 40
   · rw [if_pos o40] at h
     split at h
     · cases h
     · injection h with h; subst h; exact inc_wi hv h0
   rw [if_neg o40] at h
   by_cases o41 : op = 41
   · rw [if_pos o41] at h; injection h with h; subst h; exact inc_wi hv h0
   rw [if_neg o41] at h
   by_cases o42 : op = 42
   · rw [if_pos o42] at h
     split at h
     · cases h
     · injection h with h; subst h; exact set_wi hv hun h0
   rw [if_neg o42] at h
   by_cases o43 : op = 43
   · rw [if_pos o43] at h; injection h with h; subst h; exact set_wi hv hw h0
   rw [if_neg o43] at h
   by_cases o44 : op = 44
   · rw [if_pos o44] at h; injection h with h; subst h; exact and_wi hv hw8 h0
   rw [if_neg o44] at h
   by_cases o45 : op = 45
   · rw [if_pos o45] at h
     split at h
     · injection h with h; subst h; exact seal_wi hv h0
     · cases h
   rw [if_neg o45] at h
   split at h
   · injection h with h; subst h; exact uns_wi hv h0
   · cases h
 · rw [if_neg hg] at h; cases h
theorem der_wi {op m : Int} {v u : Vl} {c : Cp} (hv : COk v.c) (h : derR op m v u = .ok c) : v.g = true ∧ wiB c v.c = true := by
 unfold derR at h
 cases hq : madeR op m v u with
 | error e => rw [hq] at h; cases h
 | ok r =>
   rw [hq] at h
   simp only at h
   split at h
   · rename_i h0
     injection h with h
     subst h
     exact made_wi hv hq h0
   · cases h
section
variable {P : PImg} {n : Nat} {s s' : Ms}
theorem okm_reg (ok : Okm P n s) (k : Nat) : VOk (s.at_.regs k) := ok.f.r k
theorem had_self (ok : Okm P n s) (k : Nat) (hk : k < 16) (hg : (s.at_.regs k).g = true) (d : Cp) : Had s.at_.regs d (s.at_.regs k).c := .inr ⟨k, hk, hg, wi_self (okm_reg ok k).c⟩
theorem had_put {A : Nat} {v : Vl} (ok : Okm P n s) (d : Cp) (hv : v.g = true → Had s.at_.regs d v.c) (t : Ms) (ht : t.at_.regs = updV s.at_.regs A v) (k : Nat) (hk : k < 16) (hg : (t.at_.regs k).g = true) : Had s.at_.regs d (t.at_.regs k).c := by
 rw [ht] at hg ⊢
 unfold updV at hg ⊢
 by_cases e : k = A
 · rw [if_pos e] at hg ⊢; exact hv hg
 · rw [if_neg e] at hg ⊢; exact had_self ok k hk hg d
theorem had_same (ok : Okm P n s) (d : Cp) (t : Ms) (ht : t.at_.regs = s.at_.regs) (k : Nat) (hk : k < 16) (hg : (t.at_.regs k).g = true) : Had s.at_.regs d (t.at_.regs k).c := by
 rw [ht] at hg ⊢
 exact had_self ok k hk hg d
theorem rec_had {op m : Int} {B C : Nat} {v : Vl} (ok : Okm P n s) (hB : B < 16) (d : Cp) (h : recM s op B C m = .ok v) (hg : v.g = true) : Had s.at_.regs d v.c := by
 unfold recM at h
 split at h
 · injection h with h; subst h; cases hg
 split at h
 · injection h with h; subst h; exact had_self ok B hB hg d
 split at h
 · split at h
   · cases h
   · injection h with h; subst h; cases hg
 · unfold twoR at h
   split at h
   · cases h
   · split at h
     · cases h
     · injection h with h; subst h; cases hg
theorem lay_ok' {A : Nat} {q : Except Ed Vl} {t : Ms} (h : layM s A q = .ok t) : ∃ v, q = .ok v ∧ t = (s.put A v).next := by
 cases q with
 | error e => cases h
 | ok v => injection h with h; exact ⟨v, rfl, h.symm⟩
theorem step_had (hP : POk P) (ok : Okm P n s) {i : Ins} (hi : (codeOf P (kOf P s.at_.gate))[s.at_.pc]? = some i) (hc : i.op ≠ 31) (hr : i.op ≠ 32) (hl : i.op ≠ 64) (h : stepM P s = .ok s') (k : Nat) (hk : k < 16) (hg : (s'.at_.regs k).g = true) : Had s.at_.regs (ccap P (kOf P s.at_.gate) 0) (s'.at_.regs k).c := by
 have hio := (hP.code (kOf P s.at_.gate)).2 i (List.mem_of_getElem? hi)
 have hB : i.b.toNat < 16 := by have := hio.rb; omega
 have hC2 := hio.rc2
 have hA : i.a.toNat < 16 := by have := hio.ra; omega
 have hop := hio.op
 have hm := hio.rm
 unfold stepM at h
 rw [hi] at h
 simp only at h
 unfold insM at h
 split at h
 · obtain ⟨v, hv, rfl⟩ := lay_ok' h
   exact had_put ok _ (fun q => rec_had ok hB _ hv q) _ rfl k hk hg
 split at h
 · unfold strM at h
   split at h
   · injection h with h; subst h; exact had_same ok _ _ rfl k hk hg
   split at h
   · unfold braM at h
     split at h
     · cases h
     · split at h
       · cases h
       · injection h with h; subst h
         refine had_same ok _ _ ?_ k hk hg
         split <;> rfl
   split at h
   · injection h with h; subst h
     refine had_put (v := ofC (ccap P (kOf P s.at_.gate) i.m.toNat)) ok _ (fun _ => .inl ?_) _ rfl k hk hg
     unfold wiB ofC ccap
     simp only [Int.le_refl, decide_true, Bool.true_and]
     exact has_self 16 (by decide) (by decide)
   split at h
   · unfold goR at h
     split at h
     · injection h with h; subst h; exact had_same ok _ _ rfl k hk hg
     · cases h
   split at h
   · unfold haltM at h
     split at h <;> cases h
   split at h
   · cases h
   split at h
   · unfold inM at h
     split at h
     · cases h
     · injection h with h; subst h
       exact had_put ok _ (fun q => by cases q) _ rfl k hk hg
   split at h
   · unfold outM at h
     split at h
     · cases h
     · injection h with h; subst h; exact had_same ok _ _ rfl k hk hg
   exfalso
   omega
 split at h
 · obtain ⟨v, hv, rfl⟩ := lay_ok' h
   cases hd : derR i.op i.m (s.at_.regs i.b.toNat) (s.at_.regs i.c.toNat) with
   | error e => rw [hd] at hv; cases hv
   | ok c =>
     rw [hd] at hv
     injection hv with hv
     subst hv
     obtain ⟨h1, h2⟩ := der_wi (okm_reg ok _).c hd
     exact had_put ok _ (fun _ => .inr ⟨_, hB, h1, h2⟩) _ rfl k hk hg
 split at h
 · obtain ⟨v, hv, rfl⟩ := lay_ok' h
   refine had_put ok _ (fun q => ?_) _ rfl k hk hg
   cases hd : askR i.op (s.at_.regs i.b.toNat) (s.at_.regs i.c.toNat) with
   | error e => rw [hd] at hv; cases hv
   | ok c => rw [hd] at hv; injection hv with hv; subst hv; cases q
 split at h
 · have l1 : ∀ sz, loadM s i.a.toNat i.b.toNat i.m sz = .ok s' → Had s.at_.regs (ccap P (kOf P s.at_.gate) 0) (s'.at_.regs k).c := fun sz h => by
     unfold loadM at h
     split at h
     · cases h
     · split at h
       · injection h with h; subst h; exact had_put ok _ (fun q => by cases q) _ rfl k hk hg
       · cases h
   have l2 : ∀ sz, storeM s i.a.toNat i.b.toNat i.m sz = .ok s' → Had s.at_.regs (ccap P (kOf P s.at_.gate) 0) (s'.at_.regs k).c := fun sz h => by
     unfold storeM at h
     split at h
     · cases h
     · split at h
       · cases h
       · split at h
         · injection h with h; subst h; exact had_same ok _ _ rfl k hk hg
         · cases h
   unfold touM at h
   split at h
   · exact l1 _ h
   split at h
   · exact l1 _ h
   split at h
   · exact l2 _ h
   split at h
   · exact l2 _ h
   try rw [if_neg hl] at h
   unfold stcM at h
   split at h
   · cases h
   · split at h
     · injection h with h; subst h; exact had_same ok _ _ rfl k hk hg
     · cases h
 · unfold grdR at h
   split at h
   · cases h
   · injection h with h; subst h; exact had_same ok _ _ rfl k hk hg
   · cases h
def Cov (r : Nat → Vl) (t : Tc) : Prop := ∃ i, i < 16 ∧ (r i).g = true ∧ (r i).c.s = 0 ∧ (r i).c.b ≤ (t.addr : Int) ∧ (t.addr : Int) + (t.size : Int) ≤ (r i).c.e ∧ hasB (r i).c.p (if t.store then (if t.size = 16 then 8 else 2) else (if t.size = 16 then 4 else 1)) = true
theorem plc_cov {m sz p : Int} {v : Vl} {a : Int} (hv : COk v.c) (hsz : 0 ≤ sz ∧ sz ≤ 16) (h : plcR m sz p v = .ok a) : v.g = true ∧ v.c.s = 0 ∧ v.c.b ≤ a ∧ a + sz ≤ v.c.e ∧ hasB v.c.p p = true ∧ 0 ≤ a := by
 unfold plcR at h
 split at h
 · rename_i hg
   split at h
   · rename_i h0
     injection h with h
     unfold accessF at h0
     split at h0
     · rename_i hs
       split at h0
       · rename_i hp
         split at h0
         · rename_i hh
           unfold holdsB at hh
           rw [Bool.and_eq_true, Bool.and_eq_true, decide_eq_true_eq, decide_eq_true_eq, decide_eq_true_eq, h, IntKind.wrap_u64] at hh
           have h1 := hv.e
           have h2 : 0 ≤ a := by rw [← h, IntKind.wrap_u64]; omega
           have h3 := h1.2
           refine ⟨hg, hs, hh.1.1, ?_, hp, h2⟩
           omega
         · omega
       · omega
     · omega
   · cases h
 · cases h
theorem step_cov (hP : POk P) (ok : Okm P n s) {i : Ins} (hi : (codeOf P (kOf P s.at_.gate))[s.at_.pc]? = some i) (h : stepM P s = .ok s') : s'.tou = s.tou ∨ ∃ t, s'.tou = s.tou ++ [t] ∧ Cov s.at_.regs t := by
 have hio := (hP.code (kOf P s.at_.gate)).2 i (List.mem_of_getElem? hi)
 have hB : i.b.toNat < 16 := by have := hio.rb; omega
 have hop := hio.op
 unfold stepM at h
 rw [hi] at h
 simp only at h
 unfold insM at h
 split at h
 · obtain ⟨v, hv, rfl⟩ := lay_ok' h; exact .inl rfl
 split at h
 · left
   unfold strM at h
   split at h
   · injection h with h; subst h; rfl
   split at h
   · unfold braM at h
     split at h
     · cases h
     · split at h
       · cases h
       · injection h with h; subst h; split <;> rfl
   split at h
   · injection h with h; subst h; rfl
   split at h
   · unfold goR at h
     split at h
     · injection h with h; subst h; rfl
     · cases h
   split at h
   · unfold haltM at h
     split at h <;> cases h
   split at h
   · cases h
   split at h
   · unfold inM at h
     split at h
     · cases h
     · injection h with h; subst h; rfl
   split at h
   · unfold outM at h
     split at h
     · cases h
     · injection h with h; subst h; rfl
   split at h
   · unfold callM at h
     split at h
     · split at h
       · cases h
       · injection h with h; subst h; rfl
     · cases h
   · unfold retM at h
     split at h
     · split at h
       · cases h
       · injection h with h; subst h; rfl
     · cases h
 split at h
 · obtain ⟨v, hv, rfl⟩ := lay_ok' h; exact .inl rfl
 split at h
 · obtain ⟨v, hv, rfl⟩ := lay_ok' h; exact .inl rfl
 split at h
 · right
   have l1 : ∀ sz : Nat, sz = 1 ∨ sz = 8 → loadM s i.a.toNat i.b.toNat i.m sz = .ok s' → ∃ t, s'.tou = s.tou ++ [t] ∧ Cov s.at_.regs t := fun sz hz h => by
     unfold loadM at h
     split at h
     · cases h
     · rename_i a ha
       split at h
       · injection h with h; subst h
         obtain ⟨h1, h2, h3, h4, h5, h6⟩ := plc_cov (okm_reg ok _).c (by omega) ha
         exact ⟨_, rfl, _, hB, h1, h2, by show _ ≤ ((a.toNat : Nat) : Int); omega, by show ((a.toNat : Nat) : Int) + ((sz : Nat) : Int) ≤ _; omega, by show hasB _ (if false = true then _ else (if sz = 16 then 4 else 1)) = true; rw [if_neg (by decide), if_neg (by omega)]; exact h5⟩
       · cases h
   have l2 : ∀ sz : Nat, sz = 1 ∨ sz = 8 → storeM s i.a.toNat i.b.toNat i.m sz = .ok s' → ∃ t, s'.tou = s.tou ++ [t] ∧ Cov s.at_.regs t := fun sz hz h => by
     unfold storeM at h
     split at h
     · cases h
     · split at h
       · cases h
       · rename_i a ha
         split at h
         · injection h with h; subst h
           obtain ⟨h1, h2, h3, h4, h5, h6⟩ := plc_cov (okm_reg ok _).c (by omega) ha
           exact ⟨_, rfl, _, hB, h1, h2, by show _ ≤ ((a.toNat : Nat) : Int); omega, by show ((a.toNat : Nat) : Int) + ((sz : Nat) : Int) ≤ _; omega, by show hasB _ (if true = true then (if sz = 16 then 8 else 2) else _) = true; rw [if_pos rfl, if_neg (by omega)]; exact h5⟩
         · cases h
   have l3 : ∀ p : Int, ∀ a, granR i.m p (s.at_.regs i.b.toNat) = .ok a → plcR i.m 16 p (s.at_.regs i.b.toNat) = .ok a := fun p a q => by
     unfold granR at q
     split at q
     · cases q
     · rename_i b hb
       split at q
       · injection q with q; subst q; exact hb
       · cases q
   unfold touM at h
   split at h
   · exact l1 1 (.inl rfl) h
   split at h
   · exact l1 8 (.inr rfl) h
   split at h
   · exact l2 1 (.inl rfl) h
   split at h
   · exact l2 8 (.inr rfl) h
   split at h
   · unfold ldcM at h
     split at h
     · cases h
     · rename_i a ha
       split at h
       · injection h with h; subst h
         obtain ⟨h1, h2, h3, h4, h5, h6⟩ := plc_cov (okm_reg ok _).c (by omega) (l3 4 a ha)
         exact ⟨_, rfl, _, hB, h1, h2, by show _ ≤ ((a.toNat : Nat) : Int); omega, by show ((a.toNat : Nat) : Int) + ((16 : Nat) : Int) ≤ _; omega, h5⟩
       · cases h
   · unfold stcM at h
     split at h
     · cases h
     · rename_i a ha
       split at h
       · injection h with h; subst h
         obtain ⟨h1, h2, h3, h4, h5, h6⟩ := plc_cov (okm_reg ok _).c (by omega) (l3 8 a ha)
         exact ⟨_, rfl, _, hB, h1, h2, by show _ ≤ ((a.toNat : Nat) : Int); omega, by show ((a.toNat : Nat) : Int) + ((16 : Nat) : Int) ≤ _; omega, h5⟩
       · cases h
 · left
   unfold grdR at h
   split at h
   · cases h
   · injection h with h; subst h; rfl
   · cases h
end
theorem perm_of {p q : Int} (hq : q = 1 ∨ q = 2 ∨ q = 4 ∨ q = 8) (h0 : 0 ≤ p) (h1 : p < 256) (h : hasB p q = true) : (bits .and .u8 p q == 0) = false := by
 have a1 := all_bytes (fun n => !(hasB n 1) || !(bits .and .u8 n 1 == 0)) (by kernel_rfl) p h1
 have a2 := all_bytes (fun n => !(hasB n 2) || !(bits .and .u8 n 2 == 0)) (by kernel_rfl) p h1
 have a4 := all_bytes (fun n => !(hasB n 4) || !(bits .and .u8 n 4 == 0)) (by kernel_rfl) p h1
 have a8 := all_bytes (fun n => !(hasB n 8) || !(bits .and .u8 n 8 == 0)) (by kernel_rfl) p h1
 simp only [Int.toNat_of_nonneg h0] at a1 a2 a4 a8
 rcases hq with rfl | rfl | rfl | rfl
 · rw [h] at a1; simpa using a1
 · rw [h] at a2; simpa using a2
 · rw [h] at a4; simpa using a4
 · rw [h] at a8; simpa using a8
end C
end Go.Proofs.YtiigpncfmakgjaaGreatDoor
