/-
  Stage 3, instr: the walk of the statement on a byte that is another one.
-/
import Derived.Test.YtehjikjpgdnjdabDoorITurnM
import Derived.Test.YtehjikjpgdnjdabDoorISame
import Derived.Test.YtehjikjpgdnjdabDoorIOpenR
import Derived.Laws.Concat
namespace Go.Proofs.YtehjikjpgdnjdabDoor
open Go.RowKit

theorem extract_take (S : List UInt8) (j : Nat) : (str S).extract 0 j = str (S.take j) := by
  rw [str, ByteArray.extract_mk, str]
  congr 2
theorem add_str (A B : List UInt8) (h : A.length + B.length ≤ 9223372036854775807) (W : World) : (Op.stringOp .add (str A) (str B)).run Tryd.prog W = .ok (.string (str (A ++ B))) W := by
  have := run_string_add_sum (P := Tryd.prog) (w := W) (str A) (str B) (by rw [str_size, str_size]; exact h)
  rw [this]
  congr 2
theorem one_string (v : Int) (W : World) (X : Nat) (h : W.cell? ⟨X, 0, none⟩ = some (.int .u8 v)) (h0 : 0 ≤ v) (h1 : v < 256) :
    (convert 30 9 (.slice (some ⟨X, 0, none⟩) 1 1)).run Tryd.prog W = .ok (.string (str [UInt8.ofNat v.toNat])) W := by
  refine run_convert_bytes_back (P := Tryd.prog) W 30 9 5 ⟨X, 0, none⟩ 1 [UInt8.ofNat v.toNat] Tryd.underlying30 Tryd.underlying5 Tryd.underlying9 fun j hj => ?_
  obtain rfl : j = 0 := by simpa using hj
  have e : (⟨X, 0, none⟩ : Addr).add 0 = ⟨X, 0, none⟩ := by simp [Addr.add]
  rw [e, h]
  simp only [List.getElem_cons_zero]
  rw [byte_back v h0 h1]
set_option maxRecDepth 100000 in
set_option maxHeartbeats 4000000 in
theorem walk_InstrTurned (R : List Ins) (cap : Nat) (a : Option Addr) (t y : Int) (w : World) (ht : TabIn w) (hR : RIn w.heap.size w a R) (hti : I64 t) (hy : I64 y) (hlen : R.length ≤ maxI) :
    Calls Tryd.prog 3 #[.slice a R.length cap, .int .i64 t, .int .i64 y] w fun x w' => x = .returned (.bool true) ∧ Below w.heap.size w w' := by
  have ss := str_size
  have hm := made_any R cap a w ht hR hlen
  have hA := made_allR R
  have hO := made_ops R
  have hl : (R.map madeR).length = R.length := List.length_map madeR
  have hl1 : (R.length : Int) ≤ 3518437208883 := by unfold maxI at hlen; omega
  rw [← hl] at hlen hl1
  clear hl hR
  generalize R.map madeR = L at *
  have hcl := code_length L
  go_enter Tryd.func3, Tryd.ntmps3
  go_wp2_with fail
  refine hm.mono ?_
  rintro x w1 ⟨v, rfl, hLo, hB1⟩
  clear hm
  obtain ⟨a1, c1, rfl, hLi⟩ := hLo.form
  clear hLo
  have hE := Encode_any L c1 a1 w1 (ht.below hB1 ht.size) hLi hO hlen
  rw [enc_all L hA 0 []] at hE
  simp only [List.nil_append] at hE
  have tab1 := Hid.mk (ht.below hB1 ht.size)
  replace hB1 := Hid.mk hB1
  replace hLi := Hid.mk hLi
  go_wp2_with fail
  refine hE.mono ?_
  rintro x w2 ⟨rfl, hB2⟩
  have bel2 := Hid.mk (hB1.out.trans (hB2.mono hB1.out.size))
  have tab2 := Hid.mk (tab1.out.below hB2 tab1.out.size)
  have hL2 := Hid.mk ((hLi.out.below hB2).mono hB2.size)
  clear hE hB2 tab1 hLi hB1
  by_cases hT0 : (code L).length = 0
  · have e0 : (((code L).length : Int) == 0) = true := by simp [hT0]
    generalize code L = T at *
    clear hT0
    go_wp2_with fail
    go_ret
    exact ⟨rfl, bel2.out⟩
  · have e0 : (((code L).length : Int) == 0) = false := by simp [hT0]
    have hTl : ((code L).length : Int) ≤ 28147497671064 := by omega
    have hp1 := fun W => pick_any t ((code L).length : Int) W hti (by omega) (by omega)
    have hp2 := fun W => pick_any y 255 W hy (by omega) (by omega)
    obtain ⟨z0, z1⟩ := pickF_range t ((code L).length : Int) (by omega)
    obtain ⟨u0, u1⟩ := pickF_range y 255 (by omega)
    generalize pickF y 255 = u at *
    obtain ⟨kk, hkk⟩ : ∃ kk : Nat, pickF t ((code L).length : Int) = kk := ⟨_, (Int.toNat_of_nonneg z0).symm⟩
    rw [hkk] at z0 z1
    simp only [hkk] at hp1
    clear hkk
    have hk : kk < (code L).length := by omega
    have ix := str_byte (code L) kk hk
    have hbv : byteAt (code L) kk = ((code L)[kk].toNat : Int) := by simp [byteAt, hk]
    have hb0 := (byteAt_range (code L) kk).1
    have hb1 := (byteAt_range (code L) kk).2
    have hx : (code L)[kk] ≠ UInt8.ofNat ((byteAt (code L) kk + (1 + u)) % 256).toNat := fun h => by
      have h2 : ((code L)[kk].toNat : Int) = ((UInt8.ofNat ((byteAt (code L) kk + (1 + u)) % 256).toNat).toNat : Int) := by rw [← h]
      rw [byte_back _ (by omega) (by omega), ← hbv] at h2
      omega
    have hset := set_code L hA hO kk _ hk hx
    have hv0 : 0 ≤ (byteAt (code L) kk + (1 + u)) % 256 := by omega
    have hv1 : (byteAt (code L) kk + (1 + u)) % 256 < 256 := by omega
    have hcv := fun W X h => one_string ((byteAt (code L) kk + (1 + u)) % 256) W X h hv0 hv1
    clear hx hbv hA hO
    have hlA : ((code L).take kk).length = kk := by rw [List.length_take]; omega
    have hlD : ((code L).drop (kk + 1)).length + (kk + 1) = (code L).length := by rw [List.length_drop]; omega
    have ex1 := extract_take (code L) kk
    have ex2 : (str (code L)).extract (kk + 1) (code L).length = str ((code L).drop (kk + 1)) := by rw [← str_size]; exact extract_drop (code L) (kk + 1)
    generalize byteAt (code L) kk = bb at *
    generalize UInt8.ofNat ((bb + (1 + u)) % 256).toNat = nb at *
    generalize (code L).take kk = A at *
    generalize (code L).drop (kk + 1) = D at *
    have ad1 := fun W => add_str A [nb] (by simp; omega) W
    have ad2 := fun W => add_str (A ++ [nb]) D (by simp; omega) W
    have hD := fun W tab => Decode_any (A ++ [nb] ++ D) W tab (by simp only [List.length_append, List.length_cons, List.length_nil]; unfold maxI at *; omega)
    generalize A ++ [nb] ++ D = T2 at *
    generalize code L = T at *
    replace hset := Hid.mk hset
    replace hlA := Hid.mk hlA
    replace hlD := Hid.mk hlD
    replace hT0 := Hid.mk hT0
    replace hcl := Hid.mk hcl
    have eqv : IntKind.u8.wrap (bb + (1 + u)) = (bb + (1 + u)) % 256 := IntKind.wrap_u8 _
    have eqw : IntKind.u8.wrap (IntKind.i64.wrap (1 + u)) = 1 + u := by
      rw [IntKind.wrap_i64, IntKind.wrap_u8]; omega
    have k1 : (kk : Int) + 1 ≤ T.length := by omega
    have k2 : kk + 1 ≤ T.length := by omega
    have k3 : (0 : Int) ≤ (kk : Int) + 1 := by omega
    have k4 : ((kk : Int) + 1).toNat = kk + 1 := by omega
    have k5 : IntKind.i64.wrap ((kk : Int) + 1) = (kk : Int) + 1 := by rw [IntKind.wrap_i64]; omega
    have k6 : (kk : Int) + 1 ≤ 9223372036854775807 := by omega
    have k7 : (kk : Int) < T.length := by omega
    have k8 : (kk : Int) ≤ T.length := by omega
    go_upto_region 10 with (first | (go_at_call 9; refine (hp1 _).mono ?_; rintro x w' ⟨rfl, rfl⟩))
    go_region_with (go_at_call 9; refine (hp2 _).mono ?_; rintro x w' ⟨rfl, rfl⟩)
    · clear k1 k2 k3 k4 k5 k6 k8 ad1 ad2 ex1 ex2 hcv ix hp1 hp2 eqv eqw hv0 hv1
      go_upto_region 11 with fail
      refine wp_world (fun V => Below w.heap.size w V ∧ TabIn V ∧ LIn V.heap.size V a1 L) ⟨bel2.out.trans ((((Gr.refl w2).alloc _).drew).below.mono bel2.out.size), tab2.out.gr (((Gr.refl w2).alloc _).drew), (hL2.out.below (((Gr.refl w2).alloc _).drew).below).mono (((Gr.refl w2).alloc _).drew).below.size⟩ ?_
      rintro V ⟨belV, tabV, hLV⟩
      have hDV := hD V tabV
      clear hD bel2 tab2 hL2
      obtain ⟨hs1, hs2⟩ := hset.out
      replace belV := Hid.mk belV
      replace tabV := Hid.mk tabV
      replace hLV := Hid.mk hLV
      go_wp2_with fail
      refine hDV.mono ?_
      rintro x w3 ⟨v3, rfl, hLo3, hB3⟩
      obtain ⟨a3, c3, rfl, hL3⟩ := hLo3.form
      have bel3 := Hid.mk (belV.out.trans (hB3.mono belV.out.size))
      have hSm := sameList_any L (decA T2).1 c1 c3 a1 a3 w3 ((hLV.out.below hB3).mono hB3.size) hL3 (by unfold maxI at hlen; unfold maxLen; omega)
      rw [sameB_ne (fun h => hs1 h.symm)] at hSm
      clear hDV hLo3 hB3 belV tabV hLV hL3 hs1 hset
      have hkq : ((8 * (kk / 8) : Nat) : Int) = (kk : Int) / 8 * 8 := by omega
      rw [hkq] at hs2
      clear hkq
      generalize decA T2 = r at *
      obtain ⟨M, f, tt⟩ := r
      simp only at hs2 ⊢
      by_cases hf0 : f = 0
      · subst hf0
        clear hs2
        go_wp2_with fail
        refine hSm.mono ?_
        rintro x w4 ⟨rfl, hG4⟩
        have bel4 := Hid.mk (bel3.out.trans (hG4.below.mono bel3.out.size))
        clear hSm hG4 bel3
        go_wp2_with fail
        go_ret
        exact ⟨by simp, bel4.out⟩
      · obtain rfl : tt = (kk : Int) / 8 * 8 := by rcases hs2 with h | h; exact absurd h hf0; exact h
        have f1 : (f == 0) = false := by simpa using hf0
        clear hs2
        have d1 : (kk : Int).tdiv 8 = (kk : Int) / 8 := Int.tdiv_eq_ediv_of_nonneg (by omega)
        have d2 : (0 : Int) ≤ (kk : Int) / 8 := by omega
        have d3 : (kk : Int) / 8 * 8 ≤ 28147497671064 := by omega
        replace hf0 := Hid.mk hf0
        go_wp2_with fail
        refine hSm.mono ?_
        rintro x w4 ⟨rfl, hG4⟩
        have bel4 := Hid.mk (bel3.out.trans (hG4.below.mono bel3.out.size))
        clear hSm hG4 bel3
        go_wp2_with fail
        go_ret
        exact ⟨by simp, bel4.out⟩
    · clear k1 k2 k3 k4 k5 k6 k8 ad1 ad2 ex1 ex2 hcv ix hp1 hp2 eqv eqw hv0 hv1
      go_upto_region 11 with fail
      refine wp_world (fun V => Below w.heap.size w V ∧ TabIn V ∧ LIn V.heap.size V a1 L) ⟨bel2.out.trans ((((Gr.refl w2).alloc _).drew).below.mono bel2.out.size), tab2.out.gr (((Gr.refl w2).alloc _).drew), (hL2.out.below (((Gr.refl w2).alloc _).drew).below).mono (((Gr.refl w2).alloc _).drew).below.size⟩ ?_
      rintro V ⟨belV, tabV, hLV⟩
      have hDV := hD V tabV
      clear hD bel2 tab2 hL2
      obtain ⟨hs1, hs2⟩ := hset.out
      replace belV := Hid.mk belV
      replace tabV := Hid.mk tabV
      replace hLV := Hid.mk hLV
      go_wp2_with fail
      refine hDV.mono ?_
      rintro x w3 ⟨v3, rfl, hLo3, hB3⟩
      obtain ⟨a3, c3, rfl, hL3⟩ := hLo3.form
      have bel3 := Hid.mk (belV.out.trans (hB3.mono belV.out.size))
      have hSm := sameList_any L (decA T2).1 c1 c3 a1 a3 w3 ((hLV.out.below hB3).mono hB3.size) hL3 (by unfold maxI at hlen; unfold maxLen; omega)
      rw [sameB_ne (fun h => hs1 h.symm)] at hSm
      clear hDV hLo3 hB3 belV tabV hLV hL3 hs1 hset
      have hkq : ((8 * (kk / 8) : Nat) : Int) = (kk : Int) / 8 * 8 := by omega
      rw [hkq] at hs2
      clear hkq
      generalize decA T2 = r at *
      obtain ⟨M, f, tt⟩ := r
      simp only at hs2 ⊢
      by_cases hf0 : f = 0
      · subst hf0
        clear hs2
        go_wp2_with fail
        refine hSm.mono ?_
        rintro x w4 ⟨rfl, hG4⟩
        have bel4 := Hid.mk (bel3.out.trans (hG4.below.mono bel3.out.size))
        clear hSm hG4 bel3
        go_wp2_with fail
        go_ret
        exact ⟨by simp, bel4.out⟩
      · obtain rfl : tt = (kk : Int) / 8 * 8 := by rcases hs2 with h | h; exact absurd h hf0; exact h
        have f1 : (f == 0) = false := by simpa using hf0
        clear hs2
        have d1 : (kk : Int).tdiv 8 = (kk : Int) / 8 := Int.tdiv_eq_ediv_of_nonneg (by omega)
        have d2 : (0 : Int) ≤ (kk : Int) / 8 := by omega
        have d3 : (kk : Int) / 8 * 8 ≤ 28147497671064 := by omega
        replace hf0 := Hid.mk hf0
        go_wp2_with fail
        refine hSm.mono ?_
        rintro x w4 ⟨rfl, hG4⟩
        have bel4 := Hid.mk (bel3.out.trans (hG4.below.mono bel3.out.size))
        clear hSm hG4 bel3
        go_wp2_with fail
        go_ret
        exact ⟨by simp, bel4.out⟩
end Go.Proofs.YtehjikjpgdnjdabDoor
