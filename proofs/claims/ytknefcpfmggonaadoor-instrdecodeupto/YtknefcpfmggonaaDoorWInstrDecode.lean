/-
  Stage 3, instr: the walk of the statement on Decode.
-/
import Derived.Test.YtknefcpfmggonaaDoorBOut
import Derived.Test.YtknefcpfmggonaaDoorIOpenL
namespace Go.Proofs.YtknefcpfmggonaaDoor
open Go.RowKit
open B

set_option maxRecDepth 100000 in
set_option maxHeartbeats 16000000 in
theorem walk_InstrDecode (S O : List UInt8) (w : World) (ht : TabIn w) (_ : S.length ≤ maxLen) (_ : O.length ≤ maxLen) (hs : S.length ≤ 1048576) (ho : O.length ≤ 1048576) :
    Calls Tryd.prog 3 #[.string (str S), .string (str O)] w fun x w' => x = .returned (.bool true) ∧ Below w.heap.size w w' := by
  replace ht := Hd.mk ht
  go_enter Tryd.func3, Tryd.ntmps3
  go_upto_region 3 with fail
  have I0 : Hd (∃ S1 ov1 rows1, Bo w.heap.size w.heap.size (3 * 0) S1 (w.alloc (.cells #[.slice none 0 0] 25)) ov1 rows1 ∧ Below w.heap.size w (w.alloc (.cells #[.slice none 0 0] 25))) := Hd.mk ⟨_, _, _, Bo.start w _, ((Gr.refl w).alloc _).below⟩
  go_loopw [6] (fun x wr => ∃ k : Nat, x = .int .i64 k ∧ k ≤ 4 ∧ Hd (∃ S1 ov1 rows1, Bo w.heap.size w.heap.size (3 * k) S1 wr ov1 rows1 ∧ Below w.heap.size w wr)) (fun x _ => 4 - (intOf x).toNat)
  case atStart => exact ⟨0, rfl, Nat.zero_le _, I0⟩
  case round =>
    clear I0
    obtain ⟨k, rfl, hk', hI⟩ := hrel
    by_cases hk : k < 4
    · have hk1 : (k : Int) < 4 := by omega
      by_cases hp : k % 2 = 1
      · have hp1 : ((k : Int).tmod 2 == 1) = true := by rw [Int.tmod_eq_emod_of_nonneg (Int.natCast_nonneg k)]; simp; omega
        obtain ⟨S1, ov1, rows1, hB1, hW⟩ := hI.out
        clear hI
        replace hB1 := Hd.mk hB1
        replace hW := Hd.mk hW
        have C1 := Decode_any O wr (ht.out.below hW.out ht.out.size) (by unfold maxI; omega)
        go_wp2_with fail
        refine C1.mono ?_
        rintro x w1 ⟨vl, rfl, h1, b1⟩
        clear C1
        have W1 := Hd.mk (hW.out.trans (b1.mono hW.out.size))
        replace h1 := Hd.mk h1
        replace b1 := Hd.mk b1
        have C2 := Decode_any O w1 (ht.out.below W1.out ht.out.size) (by unfold maxI; omega)
        go_wp2_with fail
        refine C2.mono ?_
        rintro x w2 ⟨vx, rfl, h2, b2⟩
        clear C2
        have W2 := Hd.mk (W1.out.trans (b2.mono W1.out.size))
        replace h2 := Hd.mk h2
        replace b2 := Hd.mk b2
        have C3 := Decode_any O w2 (ht.out.below W2.out ht.out.size) (by unfold maxI; omega)
        go_wp2_with fail
        refine C3.mono ?_
        rintro x w3 ⟨vq, rfl, h3, b3⟩
        clear C3
        have W3 := Hd.mk (W2.out.trans (b3.mono W2.out.size))
        replace h3 := Hd.mk h3
        replace b3 := Hd.mk b3
        have C4 := refDecode_any O w3 (by unfold maxI; omega)
        go_wp2_with fail
        refine C4.mono ?_
        rintro x w4 ⟨vm, rfl, h4, b4⟩
        clear C4
        have W4 := Hd.mk (W3.out.trans (b4.mono W3.out.size))
        replace h4 := Hd.mk h4
        replace b4 := Hd.mk b4
        have C5 := refDecode_any O w4 (by unfold maxI; omega)
        go_wp2_with fail
        refine C5.mono ?_
        rintro x w5 ⟨vn, rfl, h5, b5⟩
        clear C5
        have W5 := Hd.mk (W4.out.trans (b5.mono W4.out.size))
        replace h5 := Hd.mk h5
        replace b5 := Hd.mk b5
        have rd0 := Hd.mk (Rd.make hB1.out h1.out b1.out h2.out b2.out h3.out b3.out h4.out b4.out h5.out b5.out)
        obtain ⟨al, cl, rfl, -⟩ := h1.out.form
        clear h1 h2 h3 h4 h5 b1 b2 b3 b4 b5 W1 W2 W3 W4 hB1 hW
        have hL := dec_len ho
        have hX := dec_len ho
        have hbad : (decA O).2.1 ≠ 0 → (decA O).1 = [] := fun q => (decA_bad q).1
        generalize (decA O).2.1 = e at *
        generalize (decA O).2.2 = at_ at *
        generalize (decA O).1 = L at *
        try generalize (decA O).1 = X at *
        try generalize (decA O).2.1 = e' at *
        try generalize (decA O).2.2 = at' at *
        have C6 := sameO rd0.out.ol rd0.out.om hL
        go_wp2_with fail
        refine C6.mono ?_
        rintro x w6 ⟨rfl, g6⟩
        clear C6
        have rd1 := Hd.mk (rd0.out.below g6.below)
        have W6 := Hd.mk (W5.out.trans (g6.below.mono W5.out.size))
        clear rd0 W5 g6
        have C7 := sameO rd1.out.oq rd1.out.om hL
        go_wp2_with fail
        refine C7.mono ?_
        rintro x w7 ⟨rfl, g7⟩
        clear C7
        have rd := Hd.mk (rd1.out.below g7.below)
        have W7 := Hd.mk (W6.out.trans (g7.below.mono W6.out.size))
        clear rd1 W6 g7
        by_cases he : e = 0
        · subst he
          clear hbad
          have C8 := keepO rd.out.bo rd.out.ol hL (by omega)
          go_wp2_with fail
          refine C8.mono ?_
          rintro x w8 ⟨rfl, S2, ov2, rows2, hB2, b8, mv⟩
          clear C8
          have q8 := Hd.mk (mv _ _ rd.out.oq rd.out.ql)
          have x8 := Hd.mk (mv _ _ rd.out.ox rd.out.xl)
          have m8 := Hd.mk (mv _ _ rd.out.om rd.out.ml)
          have n8 := Hd.mk (mv _ _ rd.out.on rd.out.nl)
          have xq := Hd.mk rd.out.xq
          have W8 := Hd.mk (W7.out.trans b8)
          replace hB2 := Hd.mk hB2
          clear mv b8 rd W7
          have C9 := sameO q8.out m8.out hL
          go_wp2_with fail
          refine C9.mono ?_
          rintro x w9 ⟨rfl, g9⟩
          clear C9
          have hB9 := Hd.mk (hB2.out.below g9.below)
          have q9 := Hd.mk (q8.out.below g9.below)
          have x9 := Hd.mk (x8.out.below g9.below)
          have n9 := Hd.mk (n8.out.below g9.below)
          have W9 := Hd.mk (W8.out.trans (g9.below.mono W8.out.size))
          clear hB2 q8 x8 m8 n8 g9 W8
          have C10 := sameO x9.out n9.out hX
          go_wp2_with fail
          refine C10.mono ?_
          rintro x w10 ⟨rfl, g10⟩
          clear C10
          have hB10 := Hd.mk (hB9.out.below g10.below)
          have q10 := Hd.mk (q9.out.below g10.below)
          have x10 := Hd.mk (x9.out.below g10.below)
          have W10 := Hd.mk (W9.out.trans (g10.below.mono W9.out.size))
          clear hB9 q9 x9 n9 g10 W9
          have C11 := keepO hB10.out q10.out hL (by omega)
          go_wp2_with fail
          refine C11.mono ?_
          rintro x w11 ⟨rfl, S3, ov3, rows3, hB3, b11, mv⟩
          clear C11
          have x11 := Hd.mk (mv _ _ x10.out xq.out)
          have W11 := Hd.mk (W10.out.trans b11)
          replace hB3 := Hd.mk hB3
          clear mv b11 hB10 q10 x10 xq W10
          have C12 := keepO hB3.out x11.out hX (by omega)
          go_wp2_with fail
          refine C12.mono ?_
          rintro x w12 ⟨rfl, S4, ov4, rows4, hB4, b12, -⟩
          clear C12
          have W12 := Hd.mk (W11.out.trans b12)
          replace hB4 := Hd.mk hB4
          clear b12 hB3 x11 W11
          have C13 := looksO hB4.out (by omega)
          go_wp2_with fail
          refine C13.mono ?_
          rintro x w13 ⟨rfl, g13⟩
          clear C13
          have hB13 := Hd.mk (hB4.out.below g13.below)
          have W13 := Hd.mk (W12.out.trans (g13.below.mono W12.out.size))
          clear hB4 g13 W12
          have e3 : 3 * k + 1 + 1 + 1 = 3 * (k + 1) := by omega
          rw [e3] at hB13
          clear e3
          go_wp2_with fail
          refine ⟨⟨k + 1, ?_, hk, Hd.mk ⟨S4, ov4, rows4, hB13.out, W13.out⟩⟩, ?_⟩
          · first | rfl | rw [nx_w2 hk (by decide)] | go_num
          · first | exact nx_m2 hk | (rw [nx_w2 hk (by decide)]; exact nx_m2 hk)
        · obtain rfl := hbad he
          have he1 : (e != 0) = true := by simpa using he
          clear hbad he
          have C8 := keepO rd.out.bo rd.out.ol hL (by omega)
          go_wp2_with fail
          refine C8.mono ?_
          rintro x w8 ⟨rfl, S2, ov2, rows2, hB2, b8, mv⟩
          clear C8
          have q8 := Hd.mk (mv _ _ rd.out.oq rd.out.ql)
          have x8 := Hd.mk (mv _ _ rd.out.ox rd.out.xl)
          have m8 := Hd.mk (mv _ _ rd.out.om rd.out.ml)
          have n8 := Hd.mk (mv _ _ rd.out.on rd.out.nl)
          have xq := Hd.mk rd.out.xq
          have W8 := Hd.mk (W7.out.trans b8)
          replace hB2 := Hd.mk hB2
          clear mv b8 rd W7
          have C9 := sameO q8.out m8.out hL
          go_wp2_with fail
          refine C9.mono ?_
          rintro x w9 ⟨rfl, g9⟩
          clear C9
          have hB9 := Hd.mk (hB2.out.below g9.below)
          have q9 := Hd.mk (q8.out.below g9.below)
          have x9 := Hd.mk (x8.out.below g9.below)
          have n9 := Hd.mk (n8.out.below g9.below)
          have W9 := Hd.mk (W8.out.trans (g9.below.mono W8.out.size))
          clear hB2 q8 x8 m8 n8 g9 W8
          have C10 := sameO x9.out n9.out hX
          go_wp2_with fail
          refine C10.mono ?_
          rintro x w10 ⟨rfl, g10⟩
          clear C10
          have hB10 := Hd.mk (hB9.out.below g10.below)
          have q10 := Hd.mk (q9.out.below g10.below)
          have x10 := Hd.mk (x9.out.below g10.below)
          have W10 := Hd.mk (W9.out.trans (g10.below.mono W9.out.size))
          clear hB9 q9 x9 n9 g10 W9
          have C11 := keepO hB10.out q10.out hL (by omega)
          go_wp2_with fail
          refine C11.mono ?_
          rintro x w11 ⟨rfl, S3, ov3, rows3, hB3, b11, mv⟩
          clear C11
          have x11 := Hd.mk (mv _ _ x10.out xq.out)
          have W11 := Hd.mk (W10.out.trans b11)
          replace hB3 := Hd.mk hB3
          clear mv b11 hB10 q10 x10 xq W10
          have C12 := keepO hB3.out x11.out hX (by omega)
          go_wp2_with fail
          refine C12.mono ?_
          rintro x w12 ⟨rfl, S4, ov4, rows4, hB4, b12, -⟩
          clear C12
          have W12 := Hd.mk (W11.out.trans b12)
          replace hB4 := Hd.mk hB4
          clear b12 hB3 x11 W11
          have C13 := looksO hB4.out (by omega)
          go_wp2_with fail
          refine C13.mono ?_
          rintro x w13 ⟨rfl, g13⟩
          clear C13
          have hB13 := Hd.mk (hB4.out.below g13.below)
          have W13 := Hd.mk (W12.out.trans (g13.below.mono W12.out.size))
          clear hB4 g13 W12
          have e3 : 3 * k + 1 + 1 + 1 = 3 * (k + 1) := by omega
          rw [e3] at hB13
          clear e3
          go_wp2_with fail
          refine ⟨⟨k + 1, ?_, hk, Hd.mk ⟨S4, ov4, rows4, hB13.out, W13.out⟩⟩, ?_⟩
          · first | rfl | rw [nx_w2 hk (by decide)] | go_num
          · first | exact nx_m2 hk | (rw [nx_w2 hk (by decide)]; exact nx_m2 hk)
      · have hp1 : ((k : Int).tmod 2 == 1) = false := by rw [Int.tmod_eq_emod_of_nonneg (Int.natCast_nonneg k)]; simp; omega
        obtain ⟨S1, ov1, rows1, hB1, hW⟩ := hI.out
        clear hI
        replace hB1 := Hd.mk hB1
        replace hW := Hd.mk hW
        have C1 := Decode_any S wr (ht.out.below hW.out ht.out.size) (by unfold maxI; omega)
        go_wp2_with fail
        refine C1.mono ?_
        rintro x w1 ⟨vl, rfl, h1, b1⟩
        clear C1
        have W1 := Hd.mk (hW.out.trans (b1.mono hW.out.size))
        replace h1 := Hd.mk h1
        replace b1 := Hd.mk b1
        have C2 := Decode_any O w1 (ht.out.below W1.out ht.out.size) (by unfold maxI; omega)
        go_wp2_with fail
        refine C2.mono ?_
        rintro x w2 ⟨vx, rfl, h2, b2⟩
        clear C2
        have W2 := Hd.mk (W1.out.trans (b2.mono W1.out.size))
        replace h2 := Hd.mk h2
        replace b2 := Hd.mk b2
        have C3 := Decode_any S w2 (ht.out.below W2.out ht.out.size) (by unfold maxI; omega)
        go_wp2_with fail
        refine C3.mono ?_
        rintro x w3 ⟨vq, rfl, h3, b3⟩
        clear C3
        have W3 := Hd.mk (W2.out.trans (b3.mono W2.out.size))
        replace h3 := Hd.mk h3
        replace b3 := Hd.mk b3
        have C4 := refDecode_any S w3 (by unfold maxI; omega)
        go_wp2_with fail
        refine C4.mono ?_
        rintro x w4 ⟨vm, rfl, h4, b4⟩
        clear C4
        have W4 := Hd.mk (W3.out.trans (b4.mono W3.out.size))
        replace h4 := Hd.mk h4
        replace b4 := Hd.mk b4
        have C5 := refDecode_any O w4 (by unfold maxI; omega)
        go_wp2_with fail
        refine C5.mono ?_
        rintro x w5 ⟨vn, rfl, h5, b5⟩
        clear C5
        have W5 := Hd.mk (W4.out.trans (b5.mono W4.out.size))
        replace h5 := Hd.mk h5
        replace b5 := Hd.mk b5
        have rd0 := Hd.mk (Rd.make hB1.out h1.out b1.out h2.out b2.out h3.out b3.out h4.out b4.out h5.out b5.out)
        obtain ⟨al, cl, rfl, -⟩ := h1.out.form
        clear h1 h2 h3 h4 h5 b1 b2 b3 b4 b5 W1 W2 W3 W4 hB1 hW
        have hL := dec_len hs
        have hX := dec_len ho
        have hbad : (decA S).2.1 ≠ 0 → (decA S).1 = [] := fun q => (decA_bad q).1
        generalize (decA S).2.1 = e at *
        generalize (decA S).2.2 = at_ at *
        generalize (decA S).1 = L at *
        try generalize (decA O).1 = X at *
        try generalize (decA O).2.1 = e' at *
        try generalize (decA O).2.2 = at' at *
        have C6 := sameO rd0.out.ol rd0.out.om hL
        go_wp2_with fail
        refine C6.mono ?_
        rintro x w6 ⟨rfl, g6⟩
        clear C6
        have rd1 := Hd.mk (rd0.out.below g6.below)
        have W6 := Hd.mk (W5.out.trans (g6.below.mono W5.out.size))
        clear rd0 W5 g6
        have C7 := sameO rd1.out.oq rd1.out.om hL
        go_wp2_with fail
        refine C7.mono ?_
        rintro x w7 ⟨rfl, g7⟩
        clear C7
        have rd := Hd.mk (rd1.out.below g7.below)
        have W7 := Hd.mk (W6.out.trans (g7.below.mono W6.out.size))
        clear rd1 W6 g7
        by_cases he : e = 0
        · subst he
          clear hbad
          have C8 := keepO rd.out.bo rd.out.ol hL (by omega)
          go_wp2_with fail
          refine C8.mono ?_
          rintro x w8 ⟨rfl, S2, ov2, rows2, hB2, b8, mv⟩
          clear C8
          have q8 := Hd.mk (mv _ _ rd.out.oq rd.out.ql)
          have x8 := Hd.mk (mv _ _ rd.out.ox rd.out.xl)
          have m8 := Hd.mk (mv _ _ rd.out.om rd.out.ml)
          have n8 := Hd.mk (mv _ _ rd.out.on rd.out.nl)
          have xq := Hd.mk rd.out.xq
          have W8 := Hd.mk (W7.out.trans b8)
          replace hB2 := Hd.mk hB2
          clear mv b8 rd W7
          have C9 := sameO q8.out m8.out hL
          go_wp2_with fail
          refine C9.mono ?_
          rintro x w9 ⟨rfl, g9⟩
          clear C9
          have hB9 := Hd.mk (hB2.out.below g9.below)
          have q9 := Hd.mk (q8.out.below g9.below)
          have x9 := Hd.mk (x8.out.below g9.below)
          have n9 := Hd.mk (n8.out.below g9.below)
          have W9 := Hd.mk (W8.out.trans (g9.below.mono W8.out.size))
          clear hB2 q8 x8 m8 n8 g9 W8
          have C10 := sameO x9.out n9.out hX
          go_wp2_with fail
          refine C10.mono ?_
          rintro x w10 ⟨rfl, g10⟩
          clear C10
          have hB10 := Hd.mk (hB9.out.below g10.below)
          have q10 := Hd.mk (q9.out.below g10.below)
          have x10 := Hd.mk (x9.out.below g10.below)
          have W10 := Hd.mk (W9.out.trans (g10.below.mono W9.out.size))
          clear hB9 q9 x9 n9 g10 W9
          have C11 := keepO hB10.out q10.out hL (by omega)
          go_wp2_with fail
          refine C11.mono ?_
          rintro x w11 ⟨rfl, S3, ov3, rows3, hB3, b11, mv⟩
          clear C11
          have x11 := Hd.mk (mv _ _ x10.out xq.out)
          have W11 := Hd.mk (W10.out.trans b11)
          replace hB3 := Hd.mk hB3
          clear mv b11 hB10 q10 x10 xq W10
          have C12 := keepO hB3.out x11.out hX (by omega)
          go_wp2_with fail
          refine C12.mono ?_
          rintro x w12 ⟨rfl, S4, ov4, rows4, hB4, b12, -⟩
          clear C12
          have W12 := Hd.mk (W11.out.trans b12)
          replace hB4 := Hd.mk hB4
          clear b12 hB3 x11 W11
          have C13 := looksO hB4.out (by omega)
          go_wp2_with fail
          refine C13.mono ?_
          rintro x w13 ⟨rfl, g13⟩
          clear C13
          have hB13 := Hd.mk (hB4.out.below g13.below)
          have W13 := Hd.mk (W12.out.trans (g13.below.mono W12.out.size))
          clear hB4 g13 W12
          have e3 : 3 * k + 1 + 1 + 1 = 3 * (k + 1) := by omega
          rw [e3] at hB13
          clear e3
          go_wp2_with fail
          refine ⟨⟨k + 1, ?_, hk, Hd.mk ⟨S4, ov4, rows4, hB13.out, W13.out⟩⟩, ?_⟩
          · first | rfl | rw [nx_w2 hk (by decide)] | go_num
          · first | exact nx_m2 hk | (rw [nx_w2 hk (by decide)]; exact nx_m2 hk)
        · obtain rfl := hbad he
          have he1 : (e != 0) = true := by simpa using he
          clear hbad he
          have C8 := keepO rd.out.bo rd.out.ol hL (by omega)
          go_wp2_with fail
          refine C8.mono ?_
          rintro x w8 ⟨rfl, S2, ov2, rows2, hB2, b8, mv⟩
          clear C8
          have q8 := Hd.mk (mv _ _ rd.out.oq rd.out.ql)
          have x8 := Hd.mk (mv _ _ rd.out.ox rd.out.xl)
          have m8 := Hd.mk (mv _ _ rd.out.om rd.out.ml)
          have n8 := Hd.mk (mv _ _ rd.out.on rd.out.nl)
          have xq := Hd.mk rd.out.xq
          have W8 := Hd.mk (W7.out.trans b8)
          replace hB2 := Hd.mk hB2
          clear mv b8 rd W7
          have C9 := sameO q8.out m8.out hL
          go_wp2_with fail
          refine C9.mono ?_
          rintro x w9 ⟨rfl, g9⟩
          clear C9
          have hB9 := Hd.mk (hB2.out.below g9.below)
          have q9 := Hd.mk (q8.out.below g9.below)
          have x9 := Hd.mk (x8.out.below g9.below)
          have n9 := Hd.mk (n8.out.below g9.below)
          have W9 := Hd.mk (W8.out.trans (g9.below.mono W8.out.size))
          clear hB2 q8 x8 m8 n8 g9 W8
          have C10 := sameO x9.out n9.out hX
          go_wp2_with fail
          refine C10.mono ?_
          rintro x w10 ⟨rfl, g10⟩
          clear C10
          have hB10 := Hd.mk (hB9.out.below g10.below)
          have q10 := Hd.mk (q9.out.below g10.below)
          have x10 := Hd.mk (x9.out.below g10.below)
          have W10 := Hd.mk (W9.out.trans (g10.below.mono W9.out.size))
          clear hB9 q9 x9 n9 g10 W9
          have C11 := keepO hB10.out q10.out hL (by omega)
          go_wp2_with fail
          refine C11.mono ?_
          rintro x w11 ⟨rfl, S3, ov3, rows3, hB3, b11, mv⟩
          clear C11
          have x11 := Hd.mk (mv _ _ x10.out xq.out)
          have W11 := Hd.mk (W10.out.trans b11)
          replace hB3 := Hd.mk hB3
          clear mv b11 hB10 q10 x10 xq W10
          have C12 := keepO hB3.out x11.out hX (by omega)
          go_wp2_with fail
          refine C12.mono ?_
          rintro x w12 ⟨rfl, S4, ov4, rows4, hB4, b12, -⟩
          clear C12
          have W12 := Hd.mk (W11.out.trans b12)
          replace hB4 := Hd.mk hB4
          clear b12 hB3 x11 W11
          have C13 := looksO hB4.out (by omega)
          go_wp2_with fail
          refine C13.mono ?_
          rintro x w13 ⟨rfl, g13⟩
          clear C13
          have hB13 := Hd.mk (hB4.out.below g13.below)
          have W13 := Hd.mk (W12.out.trans (g13.below.mono W12.out.size))
          clear hB4 g13 W12
          have e3 : 3 * k + 1 + 1 + 1 = 3 * (k + 1) := by omega
          rw [e3] at hB13
          clear e3
          go_wp2_with fail
          refine ⟨⟨k + 1, ?_, hk, Hd.mk ⟨S4, ov4, rows4, hB13.out, W13.out⟩⟩, ?_⟩
          · first | rfl | rw [nx_w2 hk (by decide)] | go_num
          · first | exact nx_m2 hk | (rw [nx_w2 hk (by decide)]; exact nx_m2 hk)
    · have hk1 : ¬ (k : Int) < 4 := by omega
      obtain ⟨S1, ov1, rows1, -, hW⟩ := hI.out
      clear hI
      replace hW := Hd.mk hW
      have C1 := Decode_any [32, 0, 0, 0, 0, 0, 0, 0] wr (ht.out.below hW.out ht.out.size) (by decide)
      rw [dec_ret] at C1
      go_wp2_with fail
      refine C1.mono ?_
      rintro x w1 ⟨v, rfl, h1, b1⟩
      clear C1
      have W1 := Hd.mk (hW.out.trans (b1.mono hW.out.size))
      obtain ⟨a, c, rfl, hi⟩ := h1.form
      obtain ⟨b, off, rfl, _, _, f0, f1, f2, f3, f4⟩ := hi 0 (by simp)
      clear h1 b1 hW hi
      simp only [Nat.zero_mul, Nat.add_zero, List.getElem_cons_zero] at f0 f1 f2 f3 f4
      go_wp2_with fail
      go_ret
      exact ⟨by simp, W1.out⟩
end Go.Proofs.YtknefcpfmggonaaDoor
