import Derived.Test.YtfidlchgmgmcbaaGreatDoorJ43
namespace Go.Proofs.YtfidlchgmgmcbaaGreatDoor
namespace C
open Go.RowKit
open T (Sep Ob Kp Mf TgIn boxOb Fm Tc Ed Vl Cp Bx tgOb mRow updV flt)

end C
end Go.Proofs.YtfidlchgmgmcbaaGreatDoor


namespace Go.Proofs.YtfidlchgmgmcbaaGreatDoor
namespace C
open Go.RowKit
open T (Sep Ob Kp Mf TgIn boxOb Fm Tc Ed Vl Cp Bx tgOb mRow updV flt)

end C
end Go.Proofs.YtfidlchgmgmcbaaGreatDoor


namespace Go.Proofs.YtfidlchgmgmcbaaGreatDoor
namespace C
open Go.RowKit
open T (Sep Ob Kp Mf TgIn boxOb Fm Tc Ed Vl Cp Bx tgOb mRow updV flt ofI)

def EdOk (e : Ed) : Prop := e.e ≠ 0 ∧ e.e ≠ 4 ∧ (e.f ≠ 0 ↔ e.e = 7)
theorem ed_flt (f : Int) (hf : f ≠ 0) : EdOk (flt f) := ⟨by show (7 : Int) ≠ 0; decide, by show (7 : Int) ≠ 4; decide, fun _ => rfl, fun _ => hf⟩
theorem upd_ne {r : Nat → Vl} {i k : Nat} {v : Vl} (h : k ≠ i) : updV r i v k = r k := by unfold updV; rw [if_neg h]
section
variable {P : PImg} {s s' : Ms} {e : Ed}
theorem ed_two {op : Int} {v u : Vl} (h : twoR op v u = .error e) : EdOk e := by
 unfold twoR at h
 split at h
 · injection h with h; subst h; exact ed_flt _ (by first | decide | assumption)
 · split at h
   · injection h with h; subst h; exact ed_flt _ (by first | decide | assumption)
   · cases h
theorem ed_rec {op m : Int} {B C : Nat} (h : recM s op B C m = .error e) : EdOk e := by
 unfold recM at h
 split at h
 · cases h
 split at h
 · cases h
 split at h
 · split at h
   · injection h with h; subst h; exact ed_flt _ (by first | decide | assumption)
   · cases h
 · exact ed_two h
theorem lay_err {q : Except Ed Vl} {A : Nat} (h : layM s A q = .error e) : q = .error e := by
 cases q with
 | error x => injection h with h; subst h; rfl
 | ok v => cases h
theorem ed_made {op m : Int} {v u : Vl} (h : madeR op m v u = .error e) : EdOk e := by
 unfold madeR at h
 repeat' split at h
 all_goals first
   | (injection h with h; subst h; exact ed_flt _ (by first | decide | assumption))
   | cases h
theorem ed_der {op m : Int} {v u : Vl} (h : derR op m v u = .error e) : EdOk e := by
 unfold derR at h
 cases hq : madeR op m v u with
 | error x => rw [hq] at h; injection h with h; subst h; exact ed_made hq
 | ok r =>
   rw [hq] at h
   simp only at h
   split at h
   · cases h
   · injection h with h; subst h; exact ed_flt _ (by first | decide | assumption)
theorem ed_ask {op : Int} {v u : Vl} (h : askR op v u = .error e) : EdOk e := by
 unfold askR at h
 split at h
 · cases h
 split at h
 · cases h
 split at h
 · cases h
 · injection h with h; subst h; exact ed_flt _ (by first | decide | assumption)
theorem ed_plc {m sz p : Int} {v : Vl} (h : plcR m sz p v = .error e) : EdOk e := by
 unfold plcR at h
 split at h
 · split at h
   · cases h
   · injection h with h; subst h; exact ed_flt _ (by first | decide | assumption)
 · injection h with h; subst h; exact ed_flt _ (by first | decide | assumption)
theorem ed_gran {m p : Int} {v : Vl} (h : granR m p v = .error e) : EdOk e := by
 unfold granR at h
 cases hq : plcR m 16 p v with
 | error x => rw [hq] at h; injection h with h; subst h; exact ed_plc hq
 | ok n =>
   rw [hq] at h
   simp only at h
   split at h
   · cases h
   · injection h with h; subst h; exact ed_flt _ (by first | decide | assumption)
theorem ed_load {A B sz : Nat} {m : Int} (h : loadM s A B m sz = .error e) : EdOk e := by
 unfold loadM at h
 split at h
 · rename_i x hq; injection h with h; subst h; exact ed_plc hq
 · split at h
   · cases h
   · injection h with h; subst h; exact ed_flt _ (by first | decide | assumption)
theorem ed_store {A B sz : Nat} {m : Int} (h : storeM s A B m sz = .error e) : EdOk e := by
 unfold storeM at h
 split at h
 · injection h with h; subst h; exact ed_flt _ (by first | decide | assumption)
 · split at h
   · rename_i x hq; injection h with h; subst h; exact ed_plc hq
   · split at h
     · cases h
     · injection h with h; subst h; exact ed_flt _ (by first | decide | assumption)
theorem ed_touch {op m : Int} {A B : Nat} (h : touM s op A B m = .error e) : EdOk e := by
 unfold touM at h
 split at h
 · exact ed_load h
 split at h
 · exact ed_load h
 split at h
 · exact ed_store h
 split at h
 · exact ed_store h
 split at h
 · unfold ldcM at h
   split at h
   · rename_i x hq; injection h with h; subst h; exact ed_gran hq
   · split at h
     · cases h
     · injection h with h; subst h; exact ed_flt _ (by first | decide | assumption)
 · unfold stcM at h
   split at h
   · rename_i x hq; injection h with h; subst h; exact ed_gran hq
   · split at h
     · cases h
     · injection h with h; subst h; exact ed_flt _ (by first | decide | assumption)
theorem ed_hol {op m : Int} {v : Vl} (h : holR op m v = .error e) : EdOk e := by
 unfold holR at h
 split at h
 · split at h
   · injection h with h; subst h; exact ed_flt _ (by first | decide | assumption)
   · cases h
 split at h
 · split at h
   · injection h with h; subst h; exact ed_flt _ (by first | decide | assumption)
   · cases h
 split at h
 · cases h
 split at h
 · split at h
   · cases h
   · split at h
     · cases h
     · cases h
 · injection h with h; subst h; exact ed_flt _ (by first | decide | assumption)
theorem ed_tgt {k : Nat} {v : Vl} (h : tgtR P k v = .error e) : EdOk e := by
 unfold tgtR at h
 split at h
 · split at h
   · split at h
     · cases h
     · injection h with h; subst h; exact ed_flt _ (by first | decide | assumption)
   · injection h with h; subst h; exact ed_flt _ (by first | decide | assumption)
 · injection h with h; subst h; exact ed_flt _ (by first | decide | assumption)
theorem ed_lit {a b : Int} (h : a ≠ 0 ∧ a ≠ 4 ∧ a ≠ 7) : EdOk ⟨a, b, 0⟩ := ⟨h.1, h.2.1, fun q => absurd rfl q, fun q => absurd q h.2.2⟩
theorem step_end (h : stepM P s = .error e) : EdOk e := by
 unfold stepM at h
 split at h
 · injection h with h; subst h; exact ed_flt _ (by first | decide | assumption)
 · rename_i i _
   unfold insM at h
   split at h
   · exact ed_rec (lay_err h)
   split at h
   · unfold strM at h
     split at h
     · cases h
     split at h
     · unfold braM at h
       split at h
       · injection h with h; subst h; exact ed_flt _ (by first | decide | assumption)
       · split at h
         · injection h with h; subst h; exact ed_flt _ (by first | decide | assumption)
         · cases h
     split at h
     · cases h
     split at h
     · unfold goR at h
       split at h
       · cases h
       · rename_i x hq; injection h with h; subst h; exact ed_tgt hq
     split at h
     · unfold haltM at h
       split at h
       · injection h with h; subst h; exact ed_flt _ (by first | decide | assumption)
       · injection h with h; subst h; exact ed_lit (by decide)
     split at h
     · injection h with h; subst h; exact ed_lit (by decide)
     split at h
     · unfold inM at h
       split at h
       · injection h with h; subst h; exact ed_lit (by decide)
       · cases h
     split at h
     · unfold outM at h
       split at h
       · injection h with h; subst h; exact ed_flt _ (by first | decide | assumption)
       · cases h
     split at h
     · unfold callM at h
       split at h
       · split at h
         · injection h with h; subst h; exact ed_lit (by decide)
         · cases h
       · injection h with h; subst h; exact ed_flt _ (by first | decide | assumption)
     · unfold retM at h
       split at h
       · split at h
         · injection h with h; subst h; exact ed_lit (by decide)
         · cases h
       · injection h with h; subst h; exact ed_flt _ (by first | decide | assumption)
   split at h
   · have h1 := lay_err h
     unfold capV at h1
     split at h1
     · cases h1
     · rename_i x hq; injection h1 with h1; subst h1; exact ed_der hq
   split at h
   · have h1 := lay_err h
     unfold nmbV at h1
     split at h1
     · cases h1
     · rename_i x hq; injection h1 with h1; subst h1; exact ed_ask hq
   split at h
   · exact ed_touch h
   · unfold grdR at h
     split at h
     · rename_i x hq; injection h with h; subst h; exact ed_hol hq
     · cases h
     · injection h with h; subst h; exact ed_lit (by decide)
structure Alone (s s' : Ms) (A : Nat) : Prop where
 gate : s'.at_.gate = s.at_.gate
 st : s'.st = s.st
 regs : ∀ k, k ≠ A → s'.at_.regs k = s.at_.regs k
theorem al_lay {A : Nat} {v : Vl} : Alone s (s.put A v).next A := ⟨rfl, rfl, fun _ h => upd_ne h⟩
theorem step_alone {i : Ins} (hi : (codeOf P (kOf P s.at_.gate))[s.at_.pc]? = some i) (hc : i.op ≠ 31) (hr : 20 ≤ i.op → i.op ≤ 32 → i.op ≠ 32) (h : stepM P s = .ok s') : Alone s s' i.a.toNat := by
 unfold stepM at h
 rw [hi] at h
 simp only at h
 unfold insM at h
 split at h
 · obtain ⟨v, _, rfl⟩ := lay_ok h; exact al_lay
 split at h
 · unfold strM at h
   split at h
   · injection h with h; subst h; exact ⟨rfl, rfl, fun _ _ => rfl⟩
   split at h
   · unfold braM at h
     split at h
     · cases h
     · split at h
       · cases h
       · injection h with h; subst h; split <;> exact ⟨rfl, rfl, fun _ _ => rfl⟩
   split at h
   · injection h with h; subst h; exact al_lay
   split at h
   · unfold goR at h
     split at h
     · injection h with h; subst h; exact ⟨rfl, rfl, fun _ _ => rfl⟩
     · cases h
   split at h
   · unfold haltM at h
     split at h <;> cases h
   split at h
   · cases h
   split at h
   · unfold inM at h
     split at h
     · cases h
     · injection h with h; subst h; exact ⟨rfl, rfl, fun _ h => upd_ne h⟩
   split at h
   · unfold outM at h
     split at h
     · cases h
     · injection h with h; subst h; exact ⟨rfl, rfl, fun _ _ => rfl⟩
   exfalso
   have := hr (by omega) (by omega)
   omega
 split at h
 · obtain ⟨v, _, rfl⟩ := lay_ok h; exact al_lay
 split at h
 · obtain ⟨v, _, rfl⟩ := lay_ok h; exact al_lay
 split at h
 · have l1 : ∀ sz, loadM s i.a.toNat i.b.toNat i.m sz = .ok s' → Alone s s' i.a.toNat := fun sz h => by
     unfold loadM at h
     split at h
     · cases h
     · split at h
       · injection h with h; subst h; exact ⟨rfl, rfl, fun _ h => upd_ne h⟩
       · cases h
   have l2 : ∀ sz, storeM s i.a.toNat i.b.toNat i.m sz = .ok s' → Alone s s' i.a.toNat := fun sz h => by
     unfold storeM at h
     split at h
     · cases h
     · split at h
       · cases h
       · split at h
         · injection h with h; subst h; exact ⟨rfl, rfl, fun _ _ => rfl⟩
         · cases h
   unfold touM at h
   split at h
   · exact l1 _ h
   split at h
   · exact l1 _ h
   split at h
   · exact l2 _ h
   split at h
   · exact l2 _ h
   split at h
   · unfold ldcM at h
     split at h
     · cases h
     · split at h
       · injection h with h; subst h; exact ⟨rfl, rfl, fun _ h => upd_ne h⟩
       · cases h
   · unfold stcM at h
     split at h
     · cases h
     · split at h
       · injection h with h; subst h; exact ⟨rfl, rfl, fun _ _ => rfl⟩
       · cases h
 · unfold grdR at h
   split at h
   · cases h
   · injection h with h; subst h; exact ⟨rfl, rfl, fun _ _ => rfl⟩
   · cases h
theorem step_err (h : stepM P s = .error e) : e.e ≠ 0 := (step_end h).1
end
end C
end Go.Proofs.YtfidlchgmgmcbaaGreatDoor


namespace Go.Proofs.YtfidlchgmgmcbaaGreatDoor
namespace C
open Go.RowKit
open T (Sep Ob Kp Mf TgIn boxOb Fm Tc Ed Vl Cp Bx tgOb mRow)

section
variable {P : PImg} {n : Nat} {s s' : Ms} {e : Ed}
end
theorem step_oc (P : PImg) (hP : POk P) (s : Ms) (c : Nat) (hs : Okm P c s) (hn : c + 1 ≤ 1000000) (t : Ms) (ht : stepsM P 1 s = t) (B : Nat) (W : World) (a : Nat) (l : List Ob) (h : MIn B W a P s l) :
   Calls Tryz.prog 7 #[.pointer (some ⟨a, 0, none⟩)] W fun x w' => x = .returned (.agg #[.int .i64 t.over.e, .int .u64 t.over.v, .int .i64 t.over.f, .int .i64 t.at_.gate, .int .i64 t.at_.pc]) ∧ MIn B w' a P t l ∧ Below B W w' := by
 rw [← ht]
 exact step_any B W a P s l c hP h hs hn
end C
end Go.Proofs.YtfidlchgmgmcbaaGreatDoor
