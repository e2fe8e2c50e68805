import Derived.Test.YtdmkedpnkejpbaaDoorP04
import Derived.Test.YtdmkedpnkejpbaaDoorP05
/-
  Stage 3, instr: Right.
-/
namespace Go.Proofs.YtdmkedpnkejpbaaDoor
open Go.RowKit

theorem str_list (l : List UInt8) : (str l).toList = l := by
  rw [ByteArray.toList_eq]; rfl
set_option maxHeartbeats 400000 in
theorem Right_any (op a b c m : Int) (w : World) (ht : TabIn w) (h0 : 0 ≤ op) (h1 : op < 256) :
    Calls Tryd.prog 82 #[.agg #[.int .u8 op, .int .i64 a, .int .i64 b, .int .i64 c, .int .i64 m]] w fun x w' => x = .returned (.int .i64 (rightF op a b c m)) ∧ Gr w w' := by
  have hn := Name_any op (w.alloc (.cells #[.int .u8 op, .int .i64 a, .int .i64 b, .int .i64 c, .int .i64 m] 74)) (ht.gr ((Gr.refl w).alloc _)) h0 h1
  have hf := fieldsRight_any op a b c m (w.alloc (.cells #[.int .u8 op, .int .i64 a, .int .i64 b, .int .i64 c, .int .i64 m] 74)) (ht.gr ((Gr.refl w).alloc _)) h0 h1
  unfold rightF
  generalize fR op (shapeOf op) 0 a b c m = ok at *
  generalize nameOf op = nm at *
  have sl := str_list
  by_cases hm : nm = []
  · subst hm
    rw [if_pos rfl]
    go_enter Tryd.func82, Tryd.ntmps82
    go_wp2_with (go_at_call 94; refine hn.mono ?_; rintro x w' ⟨rfl, rfl⟩)
    go_ret
    exact ⟨rfl, (Gr.refl w).alloc _⟩
  · rw [if_neg hm]
    have hq : nm.isEmpty = false := by simpa using hm
    cases ok with
    | true =>
      go_enter Tryd.func82, Tryd.ntmps82
      go_wp2_with (first | (go_at_call 94; refine hn.mono ?_; rintro x w' ⟨rfl, rfl⟩) | (go_at_call 95; refine hf.mono ?_; rintro x w' ⟨rfl, hG⟩))
      go_ret
      exact ⟨rfl, hG.of_alloc⟩
    | false =>
      go_enter Tryd.func82, Tryd.ntmps82
      go_wp2_with (first | (go_at_call 94; refine hn.mono ?_; rintro x w' ⟨rfl, rfl⟩) | (go_at_call 95; refine hf.mono ?_; rintro x w' ⟨rfl, hG⟩))
      go_ret
      exact ⟨rfl, hG.of_alloc⟩
end Go.Proofs.YtdmkedpnkejpbaaDoor


/-
  Stage 3, instr: Encode.
-/
namespace Go.Proofs.YtdmkedpnkejpbaaDoor
open Go.RowKit

def Ins.right (k : Ins) : Int := rightF k.op k.a k.b k.c k.m
/-- What Encode answers of the instructions that are left. -/
def encF : List Ins → Nat → List UInt8 → List UInt8 × Int × Int
  | [], _, B => (B, 0, 0)
  | k :: r, j, B => if k.right = 0 then encF r (j + 1) (B ++ bytesOf k) else ([], k.right, j)
theorem enc_next {L : List Ins} {j : Nat} {B : List UInt8} (h : j < L.length) (hr : L[j].right = 0) : encF (L.drop j) j B = encF (L.drop (j + 1)) (j + 1) (B ++ bytesOf L[j]) := by
  rw [List.drop_eq_getElem_cons h, encF, if_pos hr]
theorem enc_stop {L : List Ins} {j : Nat} {B : List UInt8} (h : j < L.length) (hr : ¬ L[j].right = 0) : encF (L.drop j) j B = ([], L[j].right, (j : Int)) := by
  rw [List.drop_eq_getElem_cons h, encF, if_neg hr]
theorem enc_end {L : List Ins} {j : Nat} {B : List UInt8} (h : ¬ j < L.length) : encF (L.drop j) j B = (B, 0, 0) := by
  have : L.drop j = [] := by rw [List.drop_eq_nil_iff]; omega
  rw [this]; rfl
/-- An operation's number is one of a byte. -/
def OpsIn (L : List Ins) : Prop := ∀ k ∈ L, 0 ≤ k.op ∧ k.op < 256
/-- So many instructions as memory can hold. -/
def maxI : Nat := 3518437208883
theorem make_bytes (w : World) (n : Nat) (hn : n ≤ maxI) : ∃ Z, (Instr.makeSlice 68 (.int .i64 0) (.int .i64 ((n : Int) * 8))).run Tryd.prog w = .ok (.slice (some ⟨w.heap.size, 0, none⟩) 0 (n * 8)) (w.alloc (.cells Z 5)) ∧
    BOwn (w.alloc (.cells Z 5)) w.heap.size (.slice (some ⟨w.heap.size, 0, none⟩) 0 (n * 8)) [] := by
  obtain ⟨i0, hi, hz0, hz1, hz2⟩ := info_parts infoByte
  unfold maxI at hn
  have h := run_make (P := Tryd.prog) w 68 5 i0 (.int .u8 0) Tryd.underlying68 hi hz0 .i64 .i64 0 ((n : Int) * 8) (by omega) (by omega) (by rw [hz2]; omega) (by omega)
  have e : ((n : Int) * 8).toNat = n * 8 := by omega
  rw [e, hz1] at h
  refine ⟨_, h, ?_⟩
  exact World.ownsRow_made w _ (n * 8) (Nat.le_refl _) (by unfold maxLen; omega) (size_madeCells _ _)
theorem string_of {w : World} {base g cap : Nat} {B : List UInt8} (h : BOwn w base (.slice (some ⟨g, 0, none⟩) B.length cap) B) :
    (convert 68 9 (.slice (some ⟨g, 0, none⟩) B.length cap)).run Tryd.prog w = .ok (.string (str B)) w := by
  refine run_convert_bytes_back (P := Tryd.prog) w 68 9 5 ⟨g, 0, none⟩ cap B Tryd.underlying68 Tryd.underlying5 Tryd.underlying9 fun j hj => ?_
  exact World.ownsRow.cells h (g := g) rfl j (byteV B[j]) (by simp [hj])
set_option maxHeartbeats 2000000 in
theorem Encode_any (L : List Ins) (cap : Nat) (a : Option Addr) (w : World) (ht : TabIn w) (hL : LIn w.heap.size w a L) (ho : OpsIn L) (hlen : L.length ≤ maxI) :
    Calls Tryd.prog 72 #[.slice a L.length cap] w fun x w' => x = .returned (.tuple #[.string (str (encF L 0 []).1), .int .i64 (encF L 0 []).2.1, .int .i64 (encF L 0 []).2.2]) ∧ Below w.heap.size w w' := by
  obtain ⟨Z, hm, hB0⟩ := make_bytes w L.length hlen
  replace hB0 := Hid.mk hB0
  have hl1 : L.length ≤ 3518437208883 := hlen
  replace hL := Hid.mk hL
  replace ho := Hid.mk ho
  go_enter Tryd.func72, Tryd.ntmps72
  go_wp2_with fail
  clear hm
  go_loopw [5, 15] (fun v i wr => ∃ (j g c : Nat) (B : List UInt8), v = .slice (some ⟨g, 0, none⟩) B.length c ∧ i = .int .i64 j ∧ j ≤ L.length ∧ Hid (BOwn wr w.heap.size (.slice (some ⟨g, 0, none⟩) B.length c) B ∧ B.length = 8 * j ∧ encF (L.drop j) j B = encF L 0 [] ∧ Below w.heap.size w wr)) (fun _ i _ => L.length - (intOf i).toNat)
  case atStart => exact ⟨0, w.heap.size, L.length * 8, [], rfl, rfl, by omega, ⟨hB0.out, rfl, rfl, ((Gr.refl w).alloc _).below⟩⟩
  case round =>
    obtain ⟨j, g, c, B, rfl, rfl, hj, ⟨hB, hBl, hf, hW⟩⟩ := hrel
    clear hB0
    have hws := hW.size
    by_cases hlt : j < L.length
    · obtain ⟨b, off, rfl, hb, hb2, c0, c1, c2, c3, c4⟩ := hL.out.below hW j hlt
      have jl : (j : Int) < L.length := by omega
      have hop := ho.out L[j] (List.getElem_mem hlt)
      have hn := @enc_next L j B hlt
      have hs := @enc_stop L j B hlt
      rw [hf] at hn hs
      generalize L[j] = k at *
      have hR := Right_any k.op k.a k.b k.c k.m
      have hR2 : k.right = rightF k.op k.a k.b k.c k.m := rfl
      rw [← hR2] at hR
      clear hR2
      have hA := appendInst_any k
      generalize hkr : k.right = kr at *
      clear hkr
      replace hf := Hid.mk hf
      replace hB := Hid.mk hB
      replace hn := Hid.mk hn
      replace hs := Hid.mk hs
      replace hBl := Hid.mk hBl
      replace hW := Hid.mk hW
      go_wp2_with fail
      refine (hR _ ((ht.below hW.out ht.size).gr ((Gr.refl wr).alloc _)) hop.1 hop.2).mono ?_
      rintro x w2 ⟨rfl, hG⟩
      have A1 : At w2 wr.heap.size #[.int .u8 k.op, .int .i64 k.a, .int .i64 k.b, .int .i64 k.c, .int .i64 k.m] := (At.new wr _ _).gr hG
      have hBe : Below wr.heap.size wr w2 := hG.of_alloc.below
      have hB2 : BOwn w2 w.heap.size (.slice (some ⟨g, 0, none⟩) B.length c) B := own_below hB.out hBe
      have hs2 := hBe.size
      have hW2 : Below w.heap.size w w2 := hW.out.trans (hBe.mono hws)
      clear hG hBe hR
      replace hB2 := Hid.mk hB2
      replace hW2 := Hid.mk hW2
      have q0 := A1.2.1
      by_cases hk : kr = 0
      · have e0 : (kr != 0) = false := by simpa using hk
        replace hn := Hid.mk (hn.out hk)
        replace hk := Hid.mk hk
        go_wp2_with fail
        refine (hA _ _ _ w.heap.size B _ hB2.out (by omega) hop.1 hop.2 (by have := hBl.out; omega)).mono ?_
        rintro x w3 ⟨g3, c3, rfl, hB3, hW3⟩
        replace hB3 := Hid.mk hB3
        replace hW3 := Hid.mk hW3
        go_wp2_with fail
        go_roundw
        case rel =>
          refine ⟨j + 1, g3, c3, B ++ bytesOf k, by rw [List.length_append]; rfl, by simp, by omega, ⟨?_, ?_, hn.out.symm, hW2.out.trans hW3.out⟩⟩
          · rw [List.length_append]; exact hB3.out
          · rw [List.length_append, bytesOf_length]; have := hBl.out; omega
        case measure => simp [intOf]; omega
      · have e0 : (kr != 0) = true := by simpa using hk
        replace hs := Hid.mk (hs.out hk)
        replace hk := Hid.mk hk
        go_wp2_with fail
        go_ret3
        rw [hs.out]
        exact ⟨rfl, hW2.out⟩
    · have jl : ¬ (j : Int) < L.length := by omega
      rw [enc_end hlt] at hf
      have hst := string_of hB
      replace hB := Hid.mk hB
      replace hW := Hid.mk hW
      replace hBl := Hid.mk hBl
      replace hf := Hid.mk hf
      go_wp2_with fail
      go_ret3
      rw [← hf.out]
      exact ⟨rfl, hW.out⟩
end Go.Proofs.YtdmkedpnkejpbaaDoor
