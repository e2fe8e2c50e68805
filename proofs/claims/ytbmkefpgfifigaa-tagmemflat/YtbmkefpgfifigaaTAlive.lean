/-
  Stage 6, tagmem: Tags; the document's first example.
-/
import Derived.Test.YtbmkefpgfifigaaTNew
namespace Go.Proofs.Ytbmkefpgfifigaa
namespace T
open Go.RowKit

set_option maxHeartbeats 1000000 in
theorem tgTags_any (S : Nat → Prop) (a : Nat) (b : Nat → UInt8) (t : Nat → Option Cp) (w : World) (h : TgIn S w a b t) :
    Calls Try.prog 25 #[.pointer (some ⟨a, 0, none⟩)] w fun x w' => ∃ v, x = .returned v ∧ UOwn w' w.heap.size v (tagsL t 4096) ∧ Below w.heap.size w w' := by
  obtain ⟨P, C, h1, h2, h3, h4⟩ := h.go
  have hN := places_any C a t w h2
  generalize tagsL t 4096 = R at *
  replace h := Hid.mk h
  replace h1 := Hid.mk h1
  replace h2 := Hid.mk h2
  clear h3 h4
  go_enter Try.func25, Try.ntmps25
  go_wp2_with fail
  refine hN.mono ?_
  rintro x w1 ⟨v, rfl, hO, hB⟩
  replace hB := Hid.mk hB
  replace hO := Hid.mk hO
  go_wp2_with fail
  go_ret
  exact ⟨_, rfl, hO.out, hB.out⟩
def exV : Vl := ⟨true, 0, ⟨0, 9, 258, 0, 0⟩⟩
theorem exLoad : ldV (scB (fun _ => 0) 32 exV) 33 1 = 1 ∧ ldE 33 1 = 0 ∧ lcE 32 = 0 := by decide
set_option maxHeartbeats 1000000 in
theorem alive_any (w : World) : Calls Try.prog 26 #[] w fun x w' => x = .returned (.bool true) ∧ Below w.heap.size w w' := by
  have hN := newTagged_none
  have hS := fun S W (h : TgIn S W (w.heap.size + 1) (fun _ => 0) (fun _ => none)) => tgStoreCap_any S (w.heap.size + 1) 32 (fun _ => 0) (fun _ => none) exV W h (by decide) (by decide)
  have hL := fun S W t (h : TgIn S W (w.heap.size + 1) (scB (fun _ => 0) 32 exV) t) => tgLoad_any S (w.heap.size + 1) 33 1 _ t W h (by decide) (by decide)
  rw [exLoad.2.2] at hS
  rw [exLoad.1, exLoad.2.1] at hL
  generalize scB (fun _ => 0) 32 exV = b1 at *
  generalize scT (fun _ => none) 32 exV = t1 at *
  simp only [Vl.agg, exV] at hS
  go_enter Try.func26, Try.ntmps26
  go_wp2_with fail
  refine (hN _).mono ?_
  rintro x w1 ⟨rfl, h1, hB⟩
  replace h1 := Hid.mk h1
  replace hB := Hid.mk hB
  go_wp2_with fail
  refine (hS _ _ h1.out).mono ?_
  rintro x w2 ⟨rfl, S2, h2, f2⟩
  replace hB := hB.out.trans (f2.kp.below hB.out.size (fun k q => by omega))
  replace h2 := Hid.mk h2
  replace hB := Hid.mk hB
  go_wp2_with fail
  refine (hL _ _ _ h2.out).mono ?_
  rintro x w3 ⟨rfl, hB3⟩
  replace hB := hB.out.trans (hB3.mono hB.out.size)
  replace hB := Hid.mk hB
  clear hB3
  go_wp2_with fail
  go_ret
  exact ⟨rfl, hB.out⟩
end T
end Go.Proofs.Ytbmkefpgfifigaa
