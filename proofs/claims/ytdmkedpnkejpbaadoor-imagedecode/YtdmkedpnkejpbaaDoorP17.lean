import Derived.Test.YtdmkedpnkejpbaaDoorP15
import Derived.Test.YtdmkedpnkejpbaaDoorP16
import Derived.Test.YtdmkedpnkejpbaaDoorP10
/-
  Stage 4, image: Encode.
-/
namespace Go.Proofs.YtdmkedpnkejpbaaDoor
open Go.RowKit

theorem own_some {w : World} {base : Nat} {v : Value} {B : List UInt8} (h : BOwn w base v B) (hB : 0 < B.length) : ∃ g c, v = .slice (some ⟨g, 0, none⟩) B.length c := by
  rcases h.2 with ⟨rfl, h0⟩ | ⟨g, cap, cur, rfl, _⟩
  · omega
  · exact ⟨g, cap, rfl⟩
set_option maxRecDepth 10000 in
set_option maxHeartbeats 2000000 in
theorem imgEncode_any (m : PImg) (ra ca ga : Option Addr) (rc cc gc : Nat) (w : World) (ht : TabIn w) (hm : ImgIn w.heap.size w ra ca ga m) (hr : m.Rng) :
    Calls Tryd.prog 8 #[.agg #[.slice ra m.regs.length rc, .slice ca m.comps.length cc, .slice ga m.gates.length gc, .int .i64 m.depth]] w fun x w' => x = .returned (.tuple #[.string (str (encI m).1), .int .i64 (encI m).2]) ∧ Below w.heap.size w w' := by
  have hR := fun W h0 (h : ImgIn W.heap.size W ra ca ga m) => imgRight_any m ra ca ga rc cc gc W h0 h hr
  have hT : ∀ W, Gr w W → TabIn W := fun W h => ht.gr h
  have hI : ∀ W, Gr w W → ImgIn W.heap.size W ra ca ga m := fun W h => (hm.below h.below).mono (gr_size h)
  have h2 := ht.size
  have hsz := imgB_le hr
  have hmg : 6 ≤ (imgB m).length := by unfold imgB magicB; simp only [List.length_append, List.length_cons]; omega
  unfold encI
  replace hr := Hid.mk hr
  replace hI := Hid.mk hI
  replace hT := Hid.mk hT
  clear hm ht
  by_cases h0 : m.right = 0
  · rw [if_pos h0]
    have hsz := hsz h0
    have g0 : (m.right != 0) = false := by simpa using h0
    rw [h0] at hR
    clear h0 g0
    by_cases hbig : (imgB m).length ≤ 40000
    · rw [if_pos hbig]
      go_enter Tryd.func8, Tryd.ntmps8
      go_wp2_with fail
      refine (hR _ (hT.out _ ((Gr.refl w).alloc _)) (hI.out _ ((Gr.refl w).alloc _))).mono ?_
      rintro x w1 ⟨rfl, hG⟩
      have X1 := (Box.new w #[.slice ra m.regs.length rc, .slice ca m.comps.length cc, .slice ga m.gates.length gc, .int .i64 m.depth] 27).gr hG
      replace hG := hG.of_alloc
      have ⟨z1, p1, _⟩ := X1.at
      have hs1 := gr_size hG
      go_wp2_with fail
      refine (image_any m ra ca ga rc cc gc w1.heap.size w1.heap.size _ ((hT.out _ hG).gr ((Gr.refl w1).alloc _)) (by omega) ⟨Nat.le_refl _, _, Box.new w1 _ _, rfl, .inl ⟨rfl, rfl⟩⟩ ((hI.out _ hG).below ((Gr.refl w1).alloc _).below) hr.out (by omega)).mono ?_
      rintro x w2 ⟨rfl, hW, hWr⟩
      clear z1 p1
      replace hWr := (Wrote.gr (base := w1.heap.size) ((Gr.refl w1).alloc _) (Nat.le_refl _)).trans hWr
      obtain ⟨hk, v, hb2, h3⟩ := hW
      obtain ⟨g, c, rfl⟩ := own_some h3 (by omega)
      have hst := string_of h3
      have ⟨z1, p1, _⟩ := one_at hb2
      have hBe : Below w.heap.size w w2 := hG.below.trans (hWr.below.mono hs1)
      generalize hBB : imgB m = BB at *
      replace hBB := Hid.mk hBB
      have d1 : ¬ (40000 : Int) < BB.length := by omega
      replace hb2 := Hid.mk hb2
      replace h3 := Hid.mk h3
      replace hBe := Hid.mk hBe
      clear hWr hG X1 hbig hsz hmg
      go_wp2_with fail
      go_ret2
      exact ⟨by rw [hBB.out]; rfl, hBe.out⟩
    · rw [if_neg hbig]
      go_enter Tryd.func8, Tryd.ntmps8
      go_wp2_with fail
      refine (hR _ (hT.out _ ((Gr.refl w).alloc _)) (hI.out _ ((Gr.refl w).alloc _))).mono ?_
      rintro x w1 ⟨rfl, hG⟩
      have X1 := (Box.new w #[.slice ra m.regs.length rc, .slice ca m.comps.length cc, .slice ga m.gates.length gc, .int .i64 m.depth] 27).gr hG
      replace hG := hG.of_alloc
      have ⟨z1, p1, _⟩ := X1.at
      have hs1 := gr_size hG
      go_wp2_with fail
      refine (image_any m ra ca ga rc cc gc w1.heap.size w1.heap.size _ ((hT.out _ hG).gr ((Gr.refl w1).alloc _)) (by omega) ⟨Nat.le_refl _, _, Box.new w1 _ _, rfl, .inl ⟨rfl, rfl⟩⟩ ((hI.out _ hG).below ((Gr.refl w1).alloc _).below) hr.out (by omega)).mono ?_
      rintro x w2 ⟨rfl, hW, hWr⟩
      clear z1 p1
      replace hWr := (Wrote.gr (base := w1.heap.size) ((Gr.refl w1).alloc _) (Nat.le_refl _)).trans hWr
      obtain ⟨hk, v, hb2, h3⟩ := hW
      obtain ⟨g, c, rfl⟩ := own_some h3 (by omega)
      have ⟨z1, p1, _⟩ := one_at hb2
      have hBe : Below w.heap.size w w2 := hG.below.trans (hWr.below.mono hs1)
      generalize imgB m = BB at *
      have d1 : (40000 : Int) < BB.length := by omega
      replace hb2 := Hid.mk hb2
      replace h3 := Hid.mk h3
      replace hBe := Hid.mk hBe
      clear hWr hG X1 hbig hsz hmg
      go_wp2_with fail
      go_ret2
      exact ⟨rfl, hBe.out⟩
  · rw [if_neg h0]
    have g0 : (m.right != 0) = true := by simpa using h0
    generalize m.right = e at *
    go_enter Tryd.func8, Tryd.ntmps8
    go_wp2_with fail
    refine (hR _ (hT.out _ ((Gr.refl w).alloc _)) (hI.out _ ((Gr.refl w).alloc _))).mono ?_
    rintro x w1 ⟨rfl, hG⟩
    replace hG := hG.of_alloc
    go_wp2_with fail
    go_ret2
    exact ⟨rfl, hG.below⟩
end Go.Proofs.YtdmkedpnkejpbaaDoor


/-
  Stage 3, instr: Decode.
-/
namespace Go.Proofs.YtdmkedpnkejpbaaDoor
open Go.RowKit

theorem infoInst : (Tryd.prog.info? 74).map (fun i => (i.zero, i.size, i.bytes)) = some (some (.agg #[.int .u8 0, .int .i64 0, .int .i64 0, .int .i64 0, .int .i64 0]), 5, 40) := by kernel_rfl
theorem vals_one (k : Ins) : ∀ u ∈ k.vals, u.oneCell' = true := by
  intro u hu
  simp [Ins.vals] at hu
  rcases hu with rfl | rfl | rfl | rfl | rfl <;> rfl
theorem wpList_append_ins {ops : Array Oper} {rest : List Oper} {o : Oper} {a : Act} {Q : Exit → Act → World → Prop} {w : World} (hgd : o.guard = none) (s x : Operand)
    (ho : o.op = .call { callee := .builtin .append, args := #[s, x], argTypes := #[55, 55] })
    (base : Nat) (v : Value) (L : List Ins) (k : Ins) (hs : a.eval s = v) (hL : LOwn w base v L)
    (X : Nat) (hx : a.eval x = .slice (some ⟨X, 0, none⟩) 1 1) (hX : At w X k.vals.toArray) (hlen : L.length + 1 ≤ maxI) (hbase : base ≤ w.heap.size)
    (h : ∀ g cap w', LOwn w' base (.slice (some ⟨g, 0, none⟩) (L.length + 1) cap) (L ++ [k]) → w.grownBy w' v.ownBlock → (v.ownBlock = some g ∨ g = w.heap.size) → wpList Tryd.prog ops Q rest (a.put o.dst (.slice (some ⟨g, 0, none⟩) (L.length + 1) cap)) w') :
    wpList Tryd.prog ops Q (o :: rest) a w := by
  obtain ⟨i0, hi, hz0, hz1, hz2⟩ := info_parts infoInst
  unfold maxI at hlen
  refine wpList_append_lies _ hgd s x 55 ho base 74 i0 (.agg #[.int .u8 0, .int .i64 0, .int .i64 0, .int .i64 0, .int .i64 0]) 5 40 Tryd.underlying55 hi hz0 hz1 hz2 rfl (by decide)
    v L.length (flat L) hs hL ⟨X, 0, none⟩ 1 1 k.vals hx (by simp [Ins.vals]) (news_at hX) (vals_one k) (by decide) (by unfold maxLen; omega) (by omega) hbase _ rfl ?_
  intro g cap w' h1 h2 h3 _
  refine h g cap w' ?_ h2 h3
  unfold LOwn
  rw [List.length_append, flat_snoc]
  exact h1
/-- What Decode answers of the bytes that are left. -/
def decF : Nat → List UInt8 → Nat → List Ins → List Ins × Int × Int
  | 0, _, _, L => (L, 0, 0)
  | n + 1, S, at_, L => if S = [] then (L, 0, 0) else if readE S = 0 then decF n (S.drop 8) (at_ + 8) (L ++ [insOf S]) else ([], readE S, at_)
def decA (S : List UInt8) : List Ins × Int × Int := decF (S.length + 1) S 0 []
theorem extract_drop (S : List UInt8) (j : Nat) : (str S).extract j (str S).size = str (S.drop j) := by
  rw [str_size, str, ByteArray.extract_mk, str]
  congr 2
  rw [List.take_of_length_le (by simp)]
theorem readE_len {S : List UInt8} (h : readE S = 0) : 8 ≤ S.length := by
  unfold readE at h
  by_cases h8 : S.length < 8
  · rw [if_pos h8] at h; omega
  · omega
set_option maxHeartbeats 600000 in
theorem Decode_any (S : List UInt8) (w : World) (ht : TabIn w) (hS : S.length ≤ 8 * maxI) :
    Calls Tryd.prog 76 #[.string (str S)] w fun x w' => ∃ v, x = .returned (.tuple #[v, .int .i64 (decA S).2.1, .int .i64 (decA S).2.2]) ∧ LOwn w' w.heap.size v (decA S).1 ∧ Below w.heap.size w w' := by
  have ss := str_size S
  have hS1 : S.length ≤ 28147497671064 := by unfold maxI at hS; omega
  go_enter Tryd.func76, Tryd.ntmps76
  go_wp2_with fail
  go_loopw [5, 6] (fun v i wr => ∃ (j n : Nat) (L : List Ins), i = .int .i64 j ∧ j ≤ S.length ∧ Hid (LOwn wr w.heap.size v L ∧ 8 * L.length = j ∧ decF n (S.drop j) j L = decA S ∧ S.length < j + n ∧ Below w.heap.size w wr)) (fun _ i _ => S.length - (intOf i).toNat)
  case atStart => exact ⟨0, S.length + 1, [], rfl, by omega, ⟨LOwn.nil _ _, rfl, rfl, by omega, Below.refl _ _⟩⟩
  case round =>
    obtain ⟨j, n, L, rfl, hj, ⟨hL, hLj, hf, hn, hW⟩⟩ := hrel
    have hws := hW.size
    by_cases hlt : j < S.length
    · have jl : (j : Int) < S.length := by omega
      have ex : (str S).extract j S.length = str (S.drop j) := by rw [← ss]; exact extract_drop S j
      have hrd := readInst_any (S.drop j) wr (ht.below hW ht.size)
      obtain ⟨n, rfl⟩ : ∃ m, n = m + 1 := ⟨n - 1, by omega⟩
      have hne : S.drop j ≠ [] := by rw [Ne, List.drop_eq_nil_iff]; omega
      rw [decF, if_neg hne] at hf
      clear hne
      unfold Ins.agg at hrd
      have hdd : (S.drop j).drop 8 = S.drop (j + 8) := by rw [List.drop_drop]
      have hlen8 : readE (S.drop j) = 0 → j + 8 ≤ S.length := fun h => by
        have := readE_len h
        rw [List.length_drop] at this
        omega
      have hpk : readE (S.drop j) = 0 → readI (S.drop j) = insOf (S.drop j) := fun h => by unfold readI pickI; rw [if_pos h]
      rw [hdd] at hf
      clear hdd
      generalize S.drop j = D at *
      generalize readE D = e at *
      generalize readI D = k at *
      replace hL := Hid.mk hL
      replace hW := Hid.mk hW
      replace hf := Hid.mk hf
      replace hLj := Hid.mk hLj
      replace hn := Hid.mk hn
      replace hlen8 := Hid.mk hlen8
      replace hpk := Hid.mk hpk
      replace ht := Hid.mk ht
      go_wp2_with fail
      refine hrd.mono ?_
      rintro x w2 ⟨rfl, hG⟩
      have hBe : Below wr.heap.size wr w2 := hG.below
      have hs2 := hBe.size
      clear hrd hG
      by_cases he : e = 0
      · have e0 : (e != 0) = false := by simpa using he
        replace hf := hf.out
        rw [if_pos he] at hf
        obtain rfl := hpk.out he
        replace hlen8 := hlen8.out he
        have hB2 : LOwn ((w2.alloc (.cells (insOf D).vals.toArray 74)).alloc (.cells (insOf D).vals.toArray 74)) w.heap.size u5 L := own_below hL.out (hBe.trans ((((Gr.refl w2).alloc _).alloc _).below.mono hs2))
        have hW2 : Below w.heap.size w ((w2.alloc (.cells (insOf D).vals.toArray 74)).alloc (.cells (insOf D).vals.toArray 74)) := hW.out.trans ((hBe.trans ((((Gr.refl w2).alloc _).alloc _).below.mono hs2)).mono hws)
        have hob := own_block hL.out
        clear hpk
        generalize insOf D = k at *
        replace he := Hid.mk he
        replace hf := Hid.mk hf
        replace hob := Hid.mk hob
        replace hB2 := Hid.mk hB2
        replace hW2 := Hid.mk hW2
        go_wp2_with (at_builtin; refine wpList_append_ins rfl (.tmp 26) (.tmp 28) rfl w.heap.size u5 L k rfl hB2.out (w2.heap.size + 1) rfl (by exact (size_one w2 _ ▸ At.new (w2.alloc _) _ _ : At _ (w2.heap.size + 1) _)) (by have := hLj.out; unfold maxI; omega) (by simp; omega) ?_)
        intro g c w3 hL3 hg3 _
        replace hL3 := Hid.mk hL3
        replace hg3 := Hid.mk hg3
        go_wp2_with fail
        go_roundw
        case rel =>
          refine ⟨j + 8, n, L ++ [k], by simp, hlen8, ⟨hL3.out, ?_, hf.out, ?_, hW2.out.trans (Below.of_grown hg3.out (by simp; omega) (fun q hq => (hob.out q hq).1))⟩⟩
          · rw [List.length_append]; have := hLj.out; simp; omega
          · have := hn.out; omega
        case measure => simp [intOf]; omega
      · have e0 : (e != 0) = true := by simpa using he
        replace hf := hf.out
        rw [if_neg he] at hf
        have hW2 : ∀ o, Below w.heap.size w (w2.alloc o) := fun o => hW.out.trans ((hBe.trans (((Gr.refl w2).alloc o).below.mono hs2)).mono hws)
        replace he := Hid.mk he
        replace hf := Hid.mk hf
        replace hW2 := Hid.mk hW2
        go_wp2_with fail
        go_ret3
        rw [← hf.out]
        exact ⟨_, rfl, LOwn.nil _ _, hW2.out _⟩
    · have jl : ¬ (j : Int) < S.length := by omega
      have hd : S.drop j = [] := by rw [List.drop_eq_nil_iff]; omega
      have he : decF n (S.drop j) j L = (L, 0, 0) := by
        rw [hd]; cases n <;> rfl
      rw [he] at hf
      clear he hd
      replace hL := Hid.mk hL
      replace hW := Hid.mk hW
      replace hf := Hid.mk hf
      replace hLj := Hid.mk hLj
      go_wp2_with fail
      go_ret3
      rw [← hf.out]
      exact ⟨_, rfl, hL.out, hW.out⟩
end Go.Proofs.YtdmkedpnkejpbaaDoor
