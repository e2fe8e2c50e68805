import Derived.Test.YtmmakknhaacplaaGreatDoorP16
import Derived.Test.YtmmakknhaacplaaGreatDoorP17
/-
  Stage 4, image: the document's bytes: low, small.
-/
namespace Go.Proofs.YtmmakknhaacplaaGreatDoor
open Go.RowKit

theorem low_bytes {n : Int} (h : 0 ≤ n) : n.tmod 256 = n % 256 ∧ IntKind.u8.wrap (n % 256) = n % 256 ∧ n.tdiv 256 = n / 256 ∧ 0 ≤ n / 256 ∧ byteV (UInt8.ofNat (n % 256).toNat) = .int .u8 (n % 256) :=
  ⟨Int.tmod_eq_emod_of_nonneg h, by rw [IntKind.wrap_u8]; omega, Int.tdiv_eq_ediv_of_nonneg h, by omega, byteV_of _ (by omega) (by omega)⟩
theorem low_wrap {n : Int} (h : W64 n) : IntKind.u64.wrap (n / 256) = n / 256 ∧ W64 (n / 256) := by
  unfold W64 at *
  exact ⟨by rw [IntKind.wrap_u64]; omega, by omega⟩
set_option maxRecDepth 10000 in
set_option maxHeartbeats 4000000 in
theorem low_any (n0 : Int) (k : Nat) (w : World) (hn0 : W64 n0) (hk1 : 1 ≤ k) (hk : k ≤ 8) :
    Calls Tryz.prog 22 #[.int .u64 n0, .int .i64 k] w fun x w' => x = .returned (.string (str (leB k n0))) ∧ Below w.heap.size w w' := by
  have hN : Hid (BOwn w w.heap.size (.slice none 0 0) []) := Hid.mk ⟨rfl, .inl ⟨rfl, rfl⟩⟩
  replace hn0 := Hid.mk hn0
  go_enter Tryz.func22, Tryz.ntmps22
  go_wp2_with fail
  go_loopw [0, 5, 6] (fun x v i wr => ∃ (q c : Nat) (a : Option Addr) (n : Int) (B : List UInt8), x = .int .u64 n ∧ v = .slice a B.length c ∧ i = .int .i64 q ∧ q ≤ k ∧ Hid (W64 n ∧ BOwn wr w.heap.size (.slice a B.length c) B ∧ B ++ leB (k - q) n = leB k n0 ∧ B.length = q ∧ (0 < q → ∃ g, a = some ⟨g, 0, none⟩) ∧ Below w.heap.size w wr)) (fun _ _ i _ => k - (intOf i).toNat)
  case atStart => exact ⟨0, 0, none, n0, [], rfl, rfl, rfl, by omega, Hid.mk ⟨hn0.out, hN.out, rfl, rfl, fun h => absurd h (by omega), Below.refl _ _⟩⟩
  case round =>
    clear hN hn0
    obtain ⟨q, c, a, n, B, rfl, rfl, rfl, hq, hH⟩ := hrel
    by_cases hql : q < k
    · have ql : (q : Int) < k := by omega
      obtain ⟨hn, hB, hE, hBl, _, hW⟩ := hH.out
      clear hH
      obtain ⟨t1, t2, t3, t4, hbv⟩ := low_bytes hn.1
      obtain ⟨t5, hn2⟩ := low_wrap hn
      have h4 := Hid.mk (own_below hB ((Gr.refl wr).alloc (.cells #[.int .u8 (n % 256)] 5)).below)
      have hX1 : At (wr.alloc (.cells #[.int .u8 (n % 256)] 5)) wr.heap.size ([UInt8.ofNat (n % 256).toNat].map byteV).toArray := by
        rw [List.map_cons, hbv]; exact At.new _ _ _
      have hs0 : w.heap.size ≤ (wr.alloc (.cells #[.int .u8 (n % 256)] 5)).heap.size := by have := hW.size; simp; omega
      have hl2 : B.length + 1 ≤ 140737488355328 := by omega
      rw [show k - q = (k - (q + 1)) + 1 by omega, leB] at hE
      have hW2 := Hid.mk (hW.trans (((Gr.refl wr).alloc (.cells #[.int .u8 (n % 256)] 5)).below.mono hW.size))
      replace hX1 := Hid.mk hX1
      replace hs0 := Hid.mk hs0
      replace hE := Hid.mk hE
      replace hl2 := Hid.mk hl2
      replace hBl := Hid.mk hBl
      replace hn2 := Hid.mk hn2
      clear hbv hB hW hn
      go_wp2_with (at_builtin; refine wpList_append_bytes rfl (.tmp 12) (.tmp 16) rfl w.heap.size (.slice a B.length c) B [UInt8.ofNat (n % 256).toNat] rfl h4.out wr.heap.size 1 rfl hX1.out rfl (by omega) hl2.out hs0.out ?_)
      intro g c' w1 hO hg
      have hW3 := Hid.mk (hW2.out.trans (Below.of_grown hg hs0.out (fun k r => (World.ownsRow.lt h4.out k r).1)))
      replace hO := Hid.mk hO
      clear hg hX1 hs0 h4 hW2
      go_wp2_with fail
      refine ⟨⟨q + 1, c', some ⟨g, 0, none⟩, n / 256, B ++ [UInt8.ofNat (n % 256).toNat], rfl, by simp, by go_num, by omega, Hid.mk ⟨hn2.out, ?_, ?_, ?_, fun _ => ⟨g, rfl⟩, hW3.out⟩⟩, by simp [intOf]; omega⟩
      · have := hO.out
        rw [List.length_append]
        exact this
      · rw [List.append_assoc]; exact hE.out
      · rw [List.length_append, hBl.out]; rfl
    · have ql : ¬ (q : Int) < k := by omega
      have eq : q = k := by omega
      subst eq
      obtain ⟨_, hB, hE, hBl, hg, hW⟩ := hH.out
      obtain ⟨g, rfl⟩ := hg (by omega)
      rw [Nat.sub_self, leB, List.append_nil] at hE
      subst hE
      have hcv := string_of hB
      replace hB := Hid.mk hB
      replace hW := Hid.mk hW
      clear hH hBl hg
      go_wp2_with fail
      go_ret
      exact ⟨rfl, hW.out⟩
theorem u64_w (n : Int) : W64 (u64 n) := u64_in n
set_option maxHeartbeats 1000000 in
theorem small_any (n : Int) (k : Nat) (w : World) (hk1 : 1 ≤ k) (hk : k ≤ 8) :
    Calls Tryz.prog 21 #[.int .i64 n, .int .i64 k] w fun x w' => x = .returned (.string (str (leB k (u64 n)))) ∧ Below w.heap.size w w' := by
  have hl := Hid.mk (fun W => low_any (u64 n) k W (u64_w n) hk1 hk)
  have e1 := wrap_u64' n
  generalize u64 n = m at *
  go_enter Tryz.func21, Tryz.ntmps21
  go_wp2_with fail
  refine (hl.out _).mono ?_
  rintro x w1 ⟨rfl, hB⟩
  replace hB := Hid.mk hB
  go_wp2_with fail
  go_ret
  exact ⟨rfl, hB.out⟩
end Go.Proofs.YtmmakknhaacplaaGreatDoor
