/-
  Stage 6, tagmem: the document's memory of bytes alone.
-/
import Derived.Test.YtbmkefpgfifigaaTDocB
namespace Go.Proofs.Ytbmkefpgfifigaa
namespace T
open Go.RowKit

theorem Dm.drew {w : World} {d kb kt kc : Nat} {b : Nat → UInt8} {tg : Nat → Bool} {cp : Nat → Cp} (h : Dm w d kb kt kc b tg cp) : Dm w.drew d kb kt kc b tg cp :=
  ⟨h.lt, h.c0, h.c1, h.c2, ⟨h.yr.lt, h.yr.at_⟩, ⟨h.br.lt, h.br.at_⟩, ⟨h.cr.lt, h.cr.at_, h.cr.fr⟩, h.ne⟩
set_option maxRecDepth 10000 in
set_option maxHeartbeats 2000000 in
theorem dFlat_any (l : List UInt8) (w : World) (hl : l.length ≤ 140737488355328) : Calls Try.prog 16 #[.string (str l)] w fun x w' => ∃ d S, x = .returned (.pointer (some ⟨d, 0, none⟩)) ∧ DIn S w' d (layB (fun _ => 0) 0 (l.take 65536) (l.take 65536).length) (fun _ => false) (fun _ => Cp.zero) ∧ (∀ k, S k → w.heap.size ≤ k) ∧ Below w.heap.size w w' := by
  have hE := Empty_any w
  have ss := str_size l
  have hlen : (l.take 65536).length = min 65536 l.length := List.length_take
  generalize hl1 : l.take 65536 = l1 at *
  replace hl1 := Hid.mk hl1
  replace hlen := Hid.mk hlen
  go_enter Try.func16, Try.ntmps16
  go_wp2_with fail
  refine hE.mono ?_
  rintro x w1 ⟨d, S, rfl, hD, hS, hB⟩
  obtain ⟨kb, kt, kc, hd, hSi⟩ := hD.go
  have hne := hd.ne
  replace hd := Hid.mk hd
  replace hSi := Hid.mk hSi
  replace hS := Hid.mk hS
  replace hB := Hid.mk hB
  replace hne := Hid.mk hne
  clear hD hE
  go_wp2_with fail
  go_loopw [4] (fun v wr => ∃ j : Nat, v = .int .i64 j ∧ j ≤ l1.length ∧ Dm wr d kb kt kc (layB (fun _ => 0) 0 l1 j) (fun _ => false) (fun _ => Cp.zero) ∧ Kp S w1 wr) (fun v _ => l1.length - (intOf v).toNat)
  case atStart => exact ⟨0, rfl, by omega, hd.out, Kp.refl _ _⟩
  case round =>
    obtain ⟨j, rfl, hj, hD, hK⟩ := hrel
    by_cases hlt : j < l1.length
    · have hl2 := hlen.out
      have jl : (j : Int) < l.length := by omega
      have jm : (j : Int) < 65536 := by omega
      have js : j < (str l).size := by rw [str_size]; omega
      have ha := str_at l j js (by omega)
      have e3 : l[j]'(by omega) = l1[j] := by simp [← hl1.out]
      rw [e3] at ha
      have hf := hD.setY j l1[j] (by omega)
      have hp : upd (layB (fun _ => 0) 0 l1 j) j l1[j] = layB (fun _ => 0) 0 l1 (j + 1) := by rw [layB]; simp [hlt]
      rw [hp] at hf
      unfold bv at hf
      have hK2 := hK.trans (Kp.set (S := S) wr ⟨kb, j, none⟩ (.int .u8 l1[j].toNat) ((hSi.out kb).2 (.inr (.inl rfl)))) (fun _ q => .inl q)
      have c0 := hD.c0
      obtain ⟨y0, yf⟩ := hD.yr.at_ j (by omega)
      unfold bv at y0
      replace hf := Hid.mk hf
      replace hK2 := Hid.mk hK2
      replace hD := Hid.mk hD
      replace hK := Hid.mk hK
      clear hl2 e3 hp
      go_wp2_with fail
      go_region
      go_wp2_with fail
      exact ⟨⟨j + 1, by go_num, by omega, hf.out.drew, hK2.out.trans (Kp.drew (fun _ => False) _) (fun _ q => q.elim)⟩, by simp [intOf]; omega⟩
    · have hfin : j = l1.length := by omega
      have hl2 := hlen.out
      have hDn : Dm wr d kb kt kc (layB (fun _ => 0) 0 l1 l1.length) (fun _ => false) (fun _ => Cp.zero) := hfin ▸ hD
      have hfk : ∀ k, S k → w.heap.size ≤ k := hS.out
      have hBe := hB.out.trans (hK.below hB.out.size hfk)
      replace hDn := Hid.mk hDn
      replace hD := Hid.mk hD
      replace hK := Hid.mk hK
      replace hBe := Hid.mk hBe
      replace hfk := Hid.mk hfk
      by_cases hq : l.length ≤ 65536
      · have jl : ¬ (j : Int) < l.length := by omega
        clear hl2 hfin hq hlt hj
        go_wp2_with fail
        go_ret
        exact ⟨d, rfl, S, ⟨kb, kt, kc, hDn.out, hSi.out⟩, hfk.out, hBe.out⟩
      · have jl : (j : Int) < l.length := by omega
        have jm : ¬ (j : Int) < 65536 := by omega
        clear hl2 hfin hq hlt hj
        go_wp2_with fail
        go_ret
        exact ⟨d, rfl, S, ⟨kb, kt, kc, hDn.out, hSi.out⟩, hfk.out, hBe.out⟩
end T
end Go.Proofs.Ytbmkefpgfifigaa
