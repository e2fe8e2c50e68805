/-
  Stage 3, instr: the walk of the statement on Encode.
-/
import Derived.Test.YtehjikjpgdnjdabDoorIStill
import Derived.Test.YtehjikjpgdnjdabDoorIRefEnc
namespace Go.Proofs.YtehjikjpgdnjdabDoor
open Go.RowKit

theorem sized_long8 {H : Type} {d : DataW H} {n B : Nat} (hB : B = 40) (h : Long d n) (hz : ∀ e s, d = .slice e s → (e.length + s.length) * B ≤ reachBytes) : n + 100 ≤ maxI := by
  rcases h with ⟨_, rfl⟩ | ⟨e, s, he, rfl, _⟩
  · unfold maxI; omega
  · have := hz e s he
    have hr : reachBytes = 140737488351232 := by decide
    rw [hB, hr] at this
    unfold maxI
    omega
def twoI : Ins := ⟨1, 3, 0, 0, -2⟩
theorem two_code : encF [twoI] 0 [] = ([1, 3, 0, 0, 254, 255, 255, 255], 0, 0) := by kernel_rfl
theorem two_enc (w : World) (ht : TabIn w) : Calls Tryd.prog 8 #[.slice (some ⟨w.heap.size, 0, none⟩) 1 1] (w.alloc (.cells #[.int .u8 1, .int .i64 3, .int .i64 0, .int .i64 0, .int .i64 (-2)] 40)) fun x w' =>
    x = .returned (.tuple #[.string (str [1, 3, 0, 0, 254, 255, 255, 255]), .int .i64 0, .int .i64 0]) ∧ Below w.heap.size w w' := by
  have hA := At.new w #[.int .u8 1, .int .i64 3, .int .i64 0, .int .i64 0, .int .i64 (-2)] 40
  have hL : LIn (w.alloc (.cells #[.int .u8 1, .int .i64 3, .int .i64 0, .int .i64 0, .int .i64 (-2)] 40)).heap.size (w.alloc (.cells #[.int .u8 1, .int .i64 3, .int .i64 0, .int .i64 0, .int .i64 (-2)] 40)) (some ⟨w.heap.size, 0, none⟩) [twoI] := fun i hi => by
    obtain rfl : i = 0 := by simpa using hi
    exact ⟨w.heap.size, 0, rfl, hA.1, hA.1, hA.2.1 0, hA.2.1 1, hA.2.1 2, hA.2.1 3, hA.2.1 4⟩
  have h := Encode_any [twoI] 1 (some ⟨w.heap.size, 0, none⟩) _ (ht.gr ((Gr.refl w).alloc _)) hL (fun k hk => by rw [List.mem_singleton] at hk; rw [hk]; decide) (by decide)
  rw [two_code] at h
  refine h.mono ?_
  rintro x w' ⟨rfl, hB⟩
  exact ⟨rfl, (((Gr.refl w).alloc _).below).trans (hB.mono (by simp))⟩
set_option maxHeartbeats 400000 in
theorem lent_nil (cap : Nat) (w : World) : Calls Tryd.prog 12 #[.slice none 0 cap] w fun x w' => x = .returned (.slice none 0 0) ∧ w = w' := by
  have eqs := fun W => eql_none 0 cap W
  go_enter Tryd.func12, Tryd.ntmps12
  go_wp2_with fail
  go_ret
  exact ⟨rfl, rfl⟩
set_option maxHeartbeats 400000 in
theorem still_nil (cap : Nat) (w : World) : Calls Tryd.prog 14 #[.slice none 0 0, .slice none 0 cap] w fun x w' => x = .returned (.bool true) ∧ w = w' := by
  have eqs := fun W => eql_none 0 cap W
  have eqt := fun W => eql_none 0 0 W
  go_enter Tryd.func14, Tryd.ntmps14
  go_wp2_with fail
  go_ret
  exact ⟨rfl, rfl⟩
def mkN (i : Nat) : Ins := ⟨1, (i : Int) % 16, 0, 0, i⟩
def news (j : Nat) : List Ins := (List.range j).map mkN
theorem below_set {w : World} {B k o : Nat} {v : Value} (h : B ≤ k) : Below B w (w.setCell ⟨k, o, none⟩ v) := by
  refine ⟨rfl, rfl, rfl, by simp, fun i hi => ?_⟩
  unfold World.setCell
  simp only
  rw [Array.getElem?_modify, if_neg (by omega)]
theorem own_frozen {w : World} {base e size n m g cap : Nat} {xs : List Value} (h : w.ownsRow base e size (.slice (some ⟨g, 0, none⟩) m cap) n xs) : ∀ o, w.frozen? ⟨g, o, none⟩ = false := fun o => by
  rcases h.2 with ⟨h, _⟩ | ⟨g', c', cur, hv, _, hg, _⟩
  · cases h
  · simp at hv
    obtain ⟨rfl, -, rfl⟩ := hv
    simp only [World.frozen?]
    rw [hg]
    simp
theorem set1 {w : World} {g p : Nat} {v u : Value} (h : w.cell? ⟨g, p, none⟩ = some u) (o : Nat) : (w.setCell ⟨g, p, none⟩ v).cell? ⟨g, o, none⟩ = if o = p then some v else w.cell? ⟨g, o, none⟩ := by
  by_cases ho : o = p
  · subst ho
    rw [if_pos rfl, World.cell?_setCell_same w _ v h]
  · rw [if_neg ho, World.cell?_setCell_other (w := w) (a := ⟨g, p, none⟩) (v := v) (b := ⟨g, o, none⟩) (by simp)]
/-- A world in which one instruction of a row was written over. -/
def put5 (w : World) (g q : Nat) (k : Ins) : World :=
  ((((w.setCell ⟨g, q, none⟩ (.int .u8 k.op)).setCell ⟨g, q + 1, none⟩ (.int .i64 k.a)).setCell ⟨g, q + 2, none⟩ (.int .i64 k.b)).setCell ⟨g, q + 3, none⟩ (.int .i64 k.c)).setCell ⟨g, q + 4, none⟩ (.int .i64 k.m)
theorem put5_cell {w : World} {g q : Nat} {k old : Ins} (h : Five w g q old) (o : Nat) : (put5 w g q k).cell? ⟨g, o, none⟩ = if o = q + 4 then some (.int .i64 k.m) else if o = q + 3 then some (.int .i64 k.c) else if o = q + 2 then some (.int .i64 k.b) else if o = q + 1 then some (.int .i64 k.a) else if o = q then some (.int .u8 k.op) else w.cell? ⟨g, o, none⟩ := by
  obtain ⟨c0, c1, c2, c3, c4⟩ := h
  have s0 := fun o => set1 (v := .int .u8 k.op) c0 o
  have s1 := fun o => set1 (p := q + 1) (v := .int .i64 k.a) (by rw [s0, if_neg (by omega)]; exact c1) o
  have s2 := fun o => set1 (p := q + 2) (v := .int .i64 k.b) (by rw [s1, if_neg (by omega), s0, if_neg (by omega)]; exact c2) o
  have s3 := fun o => set1 (p := q + 3) (v := .int .i64 k.c) (by rw [s2, if_neg (by omega), s1, if_neg (by omega), s0, if_neg (by omega)]; exact c3) o
  have s4 := fun o => set1 (p := q + 4) (v := .int .i64 k.m) (by rw [s3, if_neg (by omega), s2, if_neg (by omega), s1, if_neg (by omega), s0, if_neg (by omega)]; exact c4) o
  unfold put5
  rw [s4, s3, s2, s1, s0]
theorem put5_size (w : World) (g q : Nat) (k : Ins) : (put5 w g q k).heap.size = w.heap.size := by simp [put5]
theorem put5_below {w : World} {B g q : Nat} {k : Ins} (h : B ≤ g) : Below B w (put5 w g q k) := (((below_set h).trans (below_set h)).trans (below_set h)).trans (below_set h) |>.trans (below_set h)
theorem put5_frozen {w : World} {g q : Nat} {k : Ins} (h : ∀ o, w.frozen? ⟨g, o, none⟩ = false) (o : Nat) : (put5 w g q k).frozen? ⟨g, o, none⟩ = false := by simpa [put5] using h o
theorem put5_in {w : World} {g j : Nat} {L : List Ins} (k : Ins) (h : LIn w.heap.size w (some ⟨g, 0, none⟩) L) (hj : j < L.length) : LIn (put5 w g (j * 5) k).heap.size (put5 w g (j * 5) k) (some ⟨g, 0, none⟩) (L.set j k) := fun i hi => by
  have hi' : i < L.length := by simpa using hi
  obtain ⟨b, off, e, hb, hb2, f5⟩ := h i hi'
  cases e
  obtain ⟨b', off', e', _, _, f5'⟩ := h j hj
  cases e'
  rw [Nat.zero_add] at f5 f5'
  have pc := fun o => put5_cell (k := k) f5' o
  refine ⟨g, 0, rfl, by rw [put5_size]; exact hb, by rw [put5_size]; exact hb2, ?_⟩
  rw [Nat.zero_add]
  by_cases hij : i = j
  · subst hij
    rw [List.getElem_set_self]
    refine ⟨?_, ?_, ?_, ?_, ?_⟩
    · rw [pc, if_neg (by omega), if_neg (by omega), if_neg (by omega), if_neg (by omega), if_pos rfl]
    · rw [pc, if_neg (by omega), if_neg (by omega), if_neg (by omega), if_pos rfl]
    · rw [pc, if_neg (by omega), if_neg (by omega), if_pos (by omega)]
    · rw [pc, if_neg (by omega), if_pos (by omega)]
    · rw [pc, if_pos (by omega)]
  · rw [List.getElem_set_ne (fun e => hij e.symm)]
    have far : ∀ t, t < 5 → (put5 w g (j * 5) k).cell? ⟨g, i * 5 + t, none⟩ = w.cell? ⟨g, i * 5 + t, none⟩ := fun t ht => by
      rw [pc, if_neg (by omega), if_neg (by omega), if_neg (by omega), if_neg (by omega), if_neg (by omega)]
    exact ⟨(far 0 (by omega)).trans f5.1, (far 1 (by omega)).trans f5.2.1, (far 2 (by omega)).trans f5.2.2.1, (far 3 (by omega)).trans f5.2.2.2.1, (far 4 (by omega)).trans f5.2.2.2.2⟩
theorem news_step (L : List Ins) (j : Nat) (hj : j < L.length) : news (j + 1) ++ L.drop (j + 1) = (news j ++ L.drop j).set j (mkN j) := by
  have hnl : (news j).length = j := by simp [news]
  rw [List.set_append_right _ _ (by omega), List.drop_eq_getElem_cons hj, hnl, Nat.sub_self, List.set_cons_zero]
  simp [news, List.range_succ]
theorem news_ops (j : Nat) : OpsIn (news j) := fun k hk => by
  obtain ⟨i, _, rfl⟩ := List.mem_map.1 hk
  exact ⟨by show (0 : Int) ≤ 1; omega, by show (1 : Int) < 256; omega⟩
set_option maxRecDepth 100000 in
set_option maxHeartbeats 4000000 in
theorem walk_InstrEncode (L : List Ins) (cap : Nat) (a : Option Addr) (w : World) (ht : TabIn w) (hL : LIn w.heap.size w a L ∧ OpsIn L) (hlen : L.length + 100 ≤ maxI) :
    Calls Tryd.prog 5 #[.slice a L.length cap] w fun x w' => x = .returned (.bool true) ∧ Below w.heap.size w w' := by
  obtain ⟨hLi, hO⟩ := hL
  have hl1 : (L.length : Int) + 100 ≤ 3518437208883 := by unfold maxI at hlen; omega
  have sl := str_list
  cases a with
  | none =>
    have hL0 : L = [] := by
      cases L with
      | nil => rfl
      | cons k L =>
        obtain ⟨b, off, e, _⟩ := hLi 0 (by simp)
        cases e
    subst hL0
    have hle := lent_nil cap w
    have hEn := fun W tab c => Encode_any [] c none W tab (LIn.nil _ _ _) hO (by simp [maxI])
    have hRe := fun W c => refEncode_any [] c none W (LIn.nil _ _ _) hO (by simp [maxI])
    have hst := fun W => still_nil cap W
    have e0 : encF [] 0 [] = ([], 0, 0) := rfl
    simp only [e0, List.length_nil] at hEn hRe
    clear e0 hLi hO hlen hl1
    go_enter Tryd.func5, Tryd.ntmps5
    go_wp2_with fail
    refine hle.mono ?_
    rintro x w' ⟨rfl, rfl⟩
    have hE1 := hEn w ht 0
    go_wp2_with fail
    refine hE1.mono ?_
    rintro x w2 ⟨rfl, hB2⟩
    have tab2 := Hid.mk (ht.below hB2 ht.size)
    replace hB2 := Hid.mk hB2
    clear hE1
    go_wp2_with fail
    refine (hRe w2 cap).mono ?_
    rintro x w3 ⟨rfl, hB3⟩
    have bel3 := Hid.mk (hB2.out.trans (hB3.mono hB2.out.size))
    have tab3 := Hid.mk (tab2.out.below hB3 tab2.out.size)
    clear hB3 hB2 tab2
    go_wp2_with fail
    refine (hst w3).mono ?_
    rintro x w' ⟨rfl, rfl⟩
    have hE4 := hEn w3 tab3.out 0
    clear hst hle
    go_wp2_with fail
    refine hE4.mono ?_
    rintro x w5 ⟨rfl, hB5⟩
    have bel5 := Hid.mk (bel3.out.trans (hB5.mono bel3.out.size))
    have tab5 := Hid.mk (tab3.out.below hB5 tab3.out.size)
    clear hE4 hB5 bel3 tab3
    go_wp2_with fail
    go_loop [15] (fun n => n = .int .i64 0) (fun _ => 0)
    case atStart => rfl
    case round =>
      obtain rfl := hrel
      have hE6 := hEn w5 tab5.out 0
      go_wp2_with fail
      refine hE6.mono ?_
      rintro x w6 ⟨rfl, hB6⟩
      have bel6 := Hid.mk (bel5.out.trans (hB6.mono bel5.out.size))
      have tab6 := Hid.mk (tab5.out.below hB6 tab5.out.size)
      clear hE6 hB6 bel5 tab5 hEn
      go_wp2_with fail
      refine (hRe w6 0).mono ?_
      rintro x w7 ⟨rfl, hB7⟩
      have bel7 := Hid.mk (bel6.out.trans (hB7.mono bel6.out.size))
      have h2 := two_enc w7 (tab6.out.below hB7 tab6.out.size)
      clear hRe hB7 bel6 tab6
      go_wp2_with fail
      refine h2.mono ?_
      rintro x w8 ⟨rfl, hB8⟩
      have bel8 := Hid.mk (bel7.out.trans (hB8.mono bel7.out.size))
      clear h2 hB8 bel7
      go_wp2_with fail
      go_ret
      exact ⟨by simp, bel8.out⟩
  | some ad =>
    have hle := lent_any L cap ad w hLi hlen
    go_enter Tryd.func5, Tryd.ntmps5
    go_wp2_with fail
    refine hle.mono ?_
    rintro x w1 ⟨g, c, rfl, hc, hR, hB1⟩
    clear hle
    have fz1 := own_frozen hR
    have hgb := own_block hR g rfl
    have hR1 : LIn w1.heap.size w1 (some ⟨g, 0, none⟩) (L ++ mks 8) := by
      obtain ⟨a', c', e, h⟩ := hR.form
      have hl8 : (L ++ mks 8).length = L.length + 8 := by rw [List.length_append, mks_len]
      rw [hl8] at e
      cases e
      exact h
    clear hR
    have tab1 := ht.below hB1 ht.size
    have hEn := fun W tab (h : LIn W.heap.size W (some ⟨g, 0, none⟩) L) => Encode_any L c (some ⟨g, 0, none⟩) W tab h hO (by omega)
    have hE := hEn w1 tab1 hR1.prefix
    replace fz1 := Hid.mk fz1
    replace hR1 := Hid.mk hR1
    replace tab1 := Hid.mk tab1
    replace hB1 := Hid.mk hB1
    go_wp2_with fail
    refine hE.mono ?_
    rintro x w2 ⟨rfl, hB2⟩
    have bel2 := Hid.mk (hB1.out.trans (hB2.mono hB1.out.size))
    have tab2 := Hid.mk (tab1.out.below hB2 tab1.out.size)
    have hR2 := Hid.mk ((hR1.out.below hB2).mono hB2.size)
    have fz2 := Hid.mk (fun o => (hB2.frozen (p := ⟨g, o, none⟩) hgb.2).trans (fz1.out o))
    have hg2 : g < w2.heap.size := Nat.lt_of_lt_of_le hgb.2 hB2.size
    clear hE hB2 tab1 hR1 fz1 hB1
    have hRe := refEncode_any L cap (some ad) w2 ((hLi.below bel2.out).mono bel2.out.size) hO (by omega)
    generalize encF L 0 [] = r at *
    obtain ⟨rs, re, rk⟩ := r
    simp only at hRe ⊢
    go_wp2_with fail
    refine hRe.mono ?_
    rintro x w3 ⟨rfl, hB3⟩
    have bel3 := Hid.mk (bel2.out.trans (hB3.mono bel2.out.size))
    have tab3 := Hid.mk (tab2.out.below hB3 tab2.out.size)
    have hR3 := Hid.mk ((hR2.out.below hB3).mono hB3.size)
    have fz3 := Hid.mk (fun o => (hB3.frozen (p := ⟨g, o, none⟩) hg2).trans (fz2.out o))
    have hg3 : g < w3.heap.size := Nat.lt_of_lt_of_le hg2 hB3.size
    clear hRe hB3 tab2 hR2 fz2 bel2 hg2
    have hSt := still_any L cap c g ad w3 hR3.out ((hLi.below bel3.out).mono bel3.out.size) hc hlen
    go_wp2_with fail
    refine hSt.mono ?_
    rintro x w4 ⟨rfl, hG4⟩
    have hB4 := hG4.below
    have bel4 := Hid.mk (bel3.out.trans (hB4.mono bel3.out.size))
    have tab4 := Hid.mk (tab3.out.gr hG4)
    have hR4 := Hid.mk ((hR3.out.below hB4).mono hB4.size)
    have fz4 := Hid.mk (fun o => (hB4.frozen (p := ⟨g, o, none⟩) hg3).trans (fz3.out o))
    have hg4 : g < w4.heap.size := Nat.lt_of_lt_of_le hg3 hB4.size
    clear hSt hG4 hB4 tab3 hR3 fz3 bel3 hg3
    have hE4 := hEn w4 tab4.out hR4.out.prefix
    go_wp2_with fail
    refine hE4.mono ?_
    rintro x w5 ⟨rfl, hB5⟩
    have bel5 := Hid.mk (bel4.out.trans (hB5.mono bel4.out.size))
    have tab5 := Hid.mk (tab4.out.below hB5 tab4.out.size)
    have hR5 := Hid.mk ((hR4.out.below hB5).mono hB5.size).prefix
    have fz5 := Hid.mk (fun o => (hB5.frozen (p := ⟨g, o, none⟩) hg4).trans (fz4.out o))
    have hg5 : g < w5.heap.size := Nat.lt_of_lt_of_le hg4 hB5.size
    clear hE4 hB5 tab4 hR4 fz4 bel4 hg4 hEn
    go_wp2_with fail
    go_loopw [15] (fun n wr => ∃ j : Nat, n = .int .i64 j ∧ j ≤ L.length ∧ Hid (LIn wr.heap.size wr (some ⟨g, 0, none⟩) (news j ++ L.drop j) ∧ (∀ o, wr.frozen? ⟨g, o, none⟩ = false) ∧ Below w.heap.size w wr ∧ TabIn wr ∧ g < wr.heap.size)) (fun n _ => L.length - (intOf n).toNat)
    case atStart => exact ⟨0, rfl, by omega, ⟨by simpa [news] using hR5.out, fz5.out, bel5.out, tab5.out, hg5⟩⟩
    case round =>
      clear bel5 tab5 hR5 fz5 hg5
      obtain ⟨j, rfl, hj, ⟨hR, fz, bel, tab, hg⟩⟩ := hrel
      by_cases hlt : j < L.length
      · have jl : (j : Int) < L.length := by omega
        have hnl : (news j).length = j := by simp [news]
        have hi : j < (news j ++ L.drop j).length := by rw [List.length_append, hnl, List.length_drop]; omega
        obtain ⟨b, off, e, hb, hb2, f5⟩ := hR j hi
        cases e
        rw [Nat.zero_add] at f5
        generalize (news j ++ L.drop j)[j] = old at f5
        have hin := put5_in (mkN j) hR (by rw [List.length_append, hnl, List.length_drop]; omega : j < (news j ++ L.drop j).length)
        rw [← news_step L j hlt] at hin
        have hfz := fun o => put5_frozen (q := j * 5) (k := mkN j) fz o
        have hbl : Below w.heap.size w (put5 wr g (j * 5) (mkN j)) := bel.trans (put5_below hgb.1)
        have htb : TabIn (put5 wr g (j * 5) (mkN j)) := tab.below (put5_below hgb.1) ht.size
        have hgs : g < (put5 wr g (j * 5) (mkN j)).heap.size := by rw [put5_size]; exact hg
        obtain ⟨c0, c1, c2, c3, c4⟩ := f5
        replace hin := Hid.mk hin
        replace hfz := Hid.mk hfz
        replace hbl := Hid.mk hbl
        replace htb := Hid.mk htb
        replace hgs := Hid.mk hgs
        replace hR := Hid.mk hR
        replace bel := Hid.mk bel
        replace tab := Hid.mk tab
        clear hi hnl
        go_wp2_with fail
        go_roundw
        case rel => exact ⟨j + 1, by simp, by omega, ⟨hin.out, hfz.out, hbl.out, htb.out, hgs.out⟩⟩
        case measure => simp [intOf]; omega
      · have jl : ¬ (j : Int) < L.length := by omega
        obtain rfl : j = L.length := by omega
        rw [List.drop_length, List.append_nil] at hR
        have hnl : (news L.length).length = L.length := by simp [news]
        have hNo := news_ops L.length
        have hE6 := Encode_any (news L.length) c (some ⟨g, 0, none⟩) wr tab hR hNo (by omega)
        have hE7 := fun W h => refEncode_any (news L.length) c (some ⟨g, 0, none⟩) W h hNo (by omega)
        rw [hnl] at hE6 hE7
        generalize news L.length = N at *
        generalize encF N 0 [] = q at *
        obtain ⟨qs, qe, qk⟩ := q
        simp only at hE6 hE7
        replace hR := Hid.mk hR
        replace bel := Hid.mk bel
        replace tab := Hid.mk tab
        clear fz hNo
        go_wp2_with fail
        refine hE6.mono ?_
        rintro x w6 ⟨rfl, hB6⟩
        have bel6 := Hid.mk (bel.out.trans (hB6.mono bel.out.size))
        have tab6 := Hid.mk (tab.out.below hB6 tab.out.size)
        have hE7' := hE7 w6 ((hR.out.below hB6).mono hB6.size)
        clear hE6 hE7 hB6 bel tab hR
        go_wp2_with fail
        refine hE7'.mono ?_
        rintro x w7 ⟨rfl, hB7⟩
        have bel7 := Hid.mk (bel6.out.trans (hB7.mono bel6.out.size))
        have h2 := two_enc w7 (tab6.out.below hB7 tab6.out.size)
        clear hE7' hB7 bel6 tab6
        go_wp2_with fail
        refine h2.mono ?_
        rintro x w8 ⟨rfl, hB8⟩
        have bel8 := Hid.mk (bel7.out.trans (hB8.mono bel7.out.size))
        clear h2 hB8 bel7
        go_wp2_with fail
        go_ret
        exact ⟨by simp, bel8.out⟩
end Go.Proofs.YtehjikjpgdnjdabDoor
